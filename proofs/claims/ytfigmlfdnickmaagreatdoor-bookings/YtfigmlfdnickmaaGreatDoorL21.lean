import Derived.Test.YtfigmlfdnickmaaGreatDoorL20
import Derived.BigQuiet
set_option maxRecDepth 100000
set_option maxHeartbeats 8000000
variable{held:Bool}{t:ByteArray}{l:List (Go.Proofs.YtfigmlfdnickmaaGreatDoor.Desk.Ent × Go.Value)}{L:List ByteArray}{Q R b c cap d g k:Nat}{spare:Nat->Bool}{col:Nat->Option Go.Proofs.YtfigmlfdnickmaaGreatDoor.Col}{a0:Option Go.Addr}{s:Go.Proofs.YtfigmlfdnickmaaGreatDoor.Desk.St}{u1 u2 u3 u4 v z1 z2 z3 z4:Go.Value}{W w w' w1 w2:Go.World}
namespace Go.Proofs.YtfigmlfdnickmaaGreatDoor
open Go.RowKit
open Desk (Ent St Rep Inv)
theorem f4k(c n:Int)(w:World)(h1:-9223372036854775808<=c)(h2:c<=9223372036854775807)(hn:1<=n)(hn2:n<=1000000):
  Calls Tryz.prog 74 #[.int .i64 c,.int .i64 n] w fun e w'=>e=.returned (.int .i64 (a2s c n))/\w'=w:=by
 have hz:(n==0)=false:=by simp;omega
 have hb:=a6G (c:=c) hn
 by_cases h:c<0
 ·have k1:IntKind.i64.wrap (c+1)=c+1:=a0G (by omega) (by omega);have k2:IntKind.i64.wrap (-(c+1))=-(c+1):=a0G (by omega) (by omega);have e:(-(c+1)).tmod n=a2s c n:=by unfold a2s;rw[if_pos h];exact Int.tmod_eq_emod_of_nonneg (by omega)
  have k3:IntKind.i64.wrap (a2s c n)=a2s c n:=a0i (by omega) (by omega);generalize a2s c n=v at *
  go_enter Tryz.func74,Tryz.ntmps74
  go_wp2_with fail
  go_ret
  simp_all
 ·have e:c.tmod n=a2s c n:=by unfold a2s;rw[if_neg h];exact Int.tmod_eq_emod_of_nonneg (by omega)
  have k3:IntKind.i64.wrap (a2s c n)=a2s c n:=a0i (by omega) (by omega);generalize a2s c n=v at *
  go_enter Tryz.func74,Tryz.ntmps74
  go_wp2_with fail
  go_ret
  simp_all
theorem f7Z(h:Inv s){o:(Int × Int) ⊕ Desk.a7U}(ht:c4m t o)(hf:g4t o):g2A (d4I s o).2/\(d4I s o).2.entries.length<=60/\(d4I s o).2.days.length<=900000/\(d4I s o).2.granted.length<=900000/\(d4I s o).2.ended.length<=900000:=by
 cases o with
 |inl q=>exact⟨⟨by simp[d4I],by simp[d4I],by simp[d4I],by simp[d4I],by simp[d4I],fun _=>by simp[d4I]⟩,by simp[d4I]⟩
 |inr l =>
  obtain⟨line,_,_,hl⟩:=ht;have k:=Desk.g1y h hl hf;have en:=k.en;have gr:=k.gr;show g2A (Desk.a1q s l).2/\(Desk.a1q s l).2.entries.length<=60/\(Desk.a1q s l).2.days.length<=900000/\(Desk.a1q s l).2.granted.length<=900000/\(Desk.a1q s l).2.ended.length<=900000;have da:(Desk.a1q s l).2.days.length=0:=by rw[k.da];rfl
  have ed:(Desk.a1q s l).2.ended.length=0:=by rw[k.ed];rfl
  refine⟨⟨by omega,fun e he=>?_,by omega,by omega,by omega,fun he=>⟨(k.er he).1,k.da,(k.er he).2,k.ed⟩⟩,en,by omega,by omega,by omega⟩;have:=(h.en e (k.es e he)).sl;omega
theorem BD.more{p:Nat}{r:Raw}(h:BD w p d s r col)(k:Below w.heap.size w w'):BD w' p d s r col :=
 h.off (G:=[]) (Off.of_below k) (by simp) (h.env.later k)
theorem b5M.later{p:Nat}{q:St × Rep}(h:b5M w p d col q v w1)(k:Below w1.heap.size w1 w'):b5M w p d col q v w':=by
 obtain⟨r',col',bd,st,rp⟩:=h;exact⟨r',col',bd.more k,st.trans (Step.below k),rp.later k⟩
theorem d9C.a0s{K N:List Nat}{p:Rep}(h:d9C w K N u1 u2 u3 u4 l p.days p.granted p.ended)(hl:l.map (·.1)=p.entries):g0I w p u1 u2 u3 u4 :=
 ⟨⟨l,EV.own h.en (fun p hp=>SV.own (h.sp p hp)),hl⟩,NV.own h.da,NV.own h.gr,NV.own h.ed⟩
theorem g2b(args:Array Value)(w:World):(callFunc 77 args).run Tryz.prog w=.ok (.enter 77 args) w:=by kernel_rfl
section
variable {w0 w w1 w':World}{B n:Nat}{tg:Nat->Tg}{i:Nat}{k:Dk}{D:List Dk}{K:List Nat}{v0 v1 r1 r2 r3:Value}{X1 X2 X3:List KL}
theorem LX.still(h:LX w0 w B n tg D K v0 v1 r1 r2 r3 X1 X2 X3)(hi:D[i]?=some k){q:St × Rep}(P:b5M w k.p k.d k.col q v w1)(hb:tg b≠.no)(hp:tg b≠.pr i):w1.heap[b]?=w.heap[b]?:=by
 obtain⟨r',col',_,st,_⟩:=P;have hl:=h.ds.lt b hb;refine st.blockN hl ?_ hl
 cases hc:k.col b with
 |none=>rfl
 |some c=>exact (hp ((h.ds.at_ i k hi).pc b c hc)).elim
theorem LX.more{m:Nat}(h:LX w0 w B n tg D K v0 v1 r1 r2 r3 X1 X2 X3)(k:n<=m):LX w0 w B m tg D K v0 v1 r1 r2 r3 X1 X2 X3 :=
 ⟨h.ds,h.bk,Nat.le_trans h.len k,h.xo,h.yo,h.tb,h.tk,h.tx,h.ty,h.d3,h.bl,h.lo,h.w10⟩
theorem r7{er at_ n:Int}(h:w.heap[Q]?=some (d9E er at_ n u1 u2 u3 u4)):w.cell? ⟨Q,0,none⟩=some (.int .i64 er)/\w.cell? ⟨Q,1,none⟩=some (.int .i64 at_)/\w.cell? ⟨Q,2,none⟩=some (.int .i64 n)/\w.cell? ⟨Q,3,none⟩=some u1/\w.cell? ⟨Q,4,none⟩=some u2/\w.cell? ⟨Q,5,none⟩=some u3/\w.cell? ⟨Q,6,none⟩=some u4 :=
 ⟨d0h h 0 rfl,d0h h 1 rfl,d0h h 2 rfl,d0h h 3 rfl,d0h h 4 rfl,d0h h 5 rfl,d0h h 6 rfl⟩
structure g4C(w0 w:World)(B n:Nat)(tg:Nat->Tg)(D:List Dk)(K:List Nat)(v0 v1 r1 r2 r3:Value)(X1 X2 X3:List KL)(i:Nat)(k:Dk)(q:St × Rep)(Q:Nat)(u1 u2 u3 u4:Value)(W:World):Prop where
 lx:LX w0 w B n tg D K v0 v1 r1 r2 r3 X1 X2 X3
 hi:D[i]?=some k
 bp:b5M w k.p k.d k.col q (a0s q.2.err q.2.at_ q.2.n u1 u2 u3 u4) W
 hQ:W.heap[Q]?=some (d9E q.2.err q.2.at_ q.2.n u1 u2 u3 u4)
 lo:w.heap.size<=Q
theorem LX.mid1(h:LX w0 w B n tg D K v0 v1 r1 r2 r3 X1 X2 X3)(hi:D[i]?=some k){q:St × Rep}(P:b5M w k.p k.d k.col q (a0s q.2.err q.2.at_ q.2.n u1 u2 u3 u4) w1):g4C w0 w B n tg D K v0 v1 r1 r2 r3 X1 X2 X3 i k q w1.heap.size u1 u2 u3 u4 (w1.alloc (d9E q.2.err q.2.at_ q.2.n u1 u2 u3 u4)) :=
 ⟨h,hi,P.later ((zr _ _).alloc (zq _) _),a0p _ _,by obtain⟨_,_,_,st,_⟩:=P;exact st.size⟩
structure g2L(w0:World)(B n:Nat)(tg:Nat->Tg)(D:List Dk)(K:List Nat)(v0 v1 r1 r2 r3:Value)(X1 X2 X3:List KL)(p:Rep)(Q R:Nat)(u1 u2 u3 u4 z1 z2 z3 z4:Value)(l:List (Ent × Value))(W:World):Prop where
 lx:LX w0 W B n tg D K v0 v1 r1 r2 r3 X1 X2 X3
 rl:d9C W K (bkB B r1 r2 r3) u1 u2 u3 u4 l p.days p.granted p.ended
 hl:l.map (·.1)=p.entries
 no:∀ b∈rlB u1 u2 u3 u4 l,tg b=.no/\w0.heap.size<=b
 rv:g0I W p z1 z2 z3 z4
 hQ:W.heap[Q]?=some (d9E p.err p.at_ p.n u1 u2 u3 u4)
 hR:W.heap[R]?=some (d9E p.err p.at_ p.n z1 z2 z3 z4)
theorem g2L.later{p:Rep}(h:g2L w0 B n tg D K v0 v1 r1 r2 r3 X1 X2 X3 p Q R u1 u2 u3 u4 z1 z2 z3 z4 l w)(k:Below w.heap.size w w'):g2L w0 B n tg D K v0 v1 r1 r2 r3 X1 X2 X3 p Q R u1 u2 u3 u4 z1 z2 z3 z4 l w' :=
 ⟨h.lx.later k,h.rl.later k,h.hl,h.no,h.rv.later k,(k.block _ (Array.getElem?_eq_some_iff.1 h.hQ).1).trans h.hQ,(k.block _ (Array.getElem?_eq_some_iff.1 h.hR).1).trans h.hR⟩
theorem g4C.mid2{q:St × Rep}(h:g4C w0 w B n tg D K v0 v1 r1 r2 r3 X1 X2 X3 i k q Q u1 u2 u3 u4 W)(P:DDo W k.dd k.F k.xs q (.returned (a0s q.2.err q.2.at_ q.2.n z1 z2 z3 z4)) w2):
  ∃ tg' D' l,g2L w0 B n tg' D' K v0 v1 r1 r2 r3 X1 X2 X3 q.2 Q w2.heap.size u1 u2 u3 u4 z1 z2 z3 z4 l (w2.alloc (d9E q.2.err q.2.at_ q.2.n z1 z2 z3 z4)):=by
 obtain⟨k',tg',lx,a1,a2,a3,a4,l,hv,hl,hr,hn⟩:=h.lx.both h.hi h.bp P;simp only[a0s,Value.agg.injEq,Array.mk.injEq,List.cons.injEq,true_and,and_true] at hv;obtain⟨rfl,rfl,rfl,rfl⟩:=hv;have kW:Below w2.heap.size w2 (w2.alloc (d9E q.2.err q.2.at_ q.2.n z1 z2 z3 z4)):=(zr _ _).alloc (zq _) _;obtain⟨y1,y2,y3,y4,xs',F',he,tl,nv,_,_,kd,_⟩:=P;simp only[Ending.returned.injEq,a0s,Value.agg.injEq,Array.mk.injEq,List.cons.injEq,true_and,and_true] at he;obtain⟨rfl,rfl,rfl,rfl⟩:=he;have hQl:=(Array.getElem?_eq_some_iff.1 h.hQ).1
 have hQ2:w2.heap[Q]?=some (d9E q.2.err q.2.at_ q.2.n u1 u2 u3 u4):=(kd.block Q hQl (fun hx=>by
  have:=h.lx.ds.lt Q (by rw[(h.lx.ds.at_ i k h.hi).df Q hx];simp);have:=h.lo
  omega)).trans h.hQ
 exact⟨tg',_,l,lx.later kW,hr.later kW,hl,hn,(g0I.mk tl.en tl.da nv tl.ed).later kW,(kW.block _ (by have:=kd.size;omega)).trans hQ2,a0p _ _⟩
theorem g2L.a9i{p:Rep}(h:g2L w0 B n tg D K v0 v1 r1 r2 r3 X1 X2 X3 p Q R u1 u2 u3 u4 z1 z2 z3 z4 l w)(hn:n+64<=900000000)(ok:g2A p)(o6:p.entries.length<=60/\p.days.length<=900000/\p.granted.length<=900000/\p.ended.length<=900000):
  Calls Tryz.prog 77 #[.pointer (some ⟨B,2,none⟩),.agg #[.int .i64 p.err,.int .i64 p.at_,.int .i64 p.n,u1,u2,u3,u4]] w fun x w'=>x=.returned (.tuple #[])/\LW w0 w' B (n+64):=by
 have hll:l.length=p.entries.length:=by rw[<- h.hl,List.length_map]
 have hlen:=h.lx.len;refine (f8V h.lx.bk (by omega) h.rl (by omega) (fun x hx=>?_) o6.2.1 o6.2.2.1 o6.2.2.2 p.err p.at_ p.n).mono ?_
 ·have:x.1∈p.entries:=by rw[<- h.hl];exact List.mem_map.2 ⟨x,hx,rfl⟩
  have:=ok.sp x.1 this;omega
 ·rintro e w4 ⟨rfl,h4⟩;exact⟨rfl,(h.lx.more (Nat.le_add_right n 64)).kept (by omega) h.no h4⟩
theorem e2q(h:LW w0 w B n){a:Int}(h1:-9223372036854775808<=a)(h2:a<=9223372036854775807)(ht:f9Y t)(hn:n+64<=900000000):
  Calls Tryz.prog 54 #[.pointer (some ⟨B,0,none⟩),.int .i64 a,.string t] w fun e w'=>e=.returned (.bool true)/\LW w0 w' B (n+64):=by
 obtain⟨tg,D,K,v0,v1,r1,r2,r3,X1,X2,X3,hx⟩:=h;obtain⟨a0,c0,rfl⟩:=c9y hx.xo;obtain⟨a1,c1,rfl⟩:=c9y hx.yo;obtain⟨x0,x1,_,_,_,_⟩:=hx.bk.cells;have HX:=a0b hx
 by_cases hD:D.length=0
 ·have hD':((D.length:Int)==0)=true:=by simp[hD]
  clear hx ht hD
  go_enter Tryz.func54,Tryz.ntmps54
  go_wp2_with fail
  go_ret;exact⟨rfl,_,_,_,_,_,_,_,_,_,_,_,HX.out.more (Nat.le_add_right n 64)⟩
 ·have hD':((D.length:Int)==0)=false:=by rw[beq_eq_false_iff_ne];omega
  have hd3:=hx.d3;have hb:=a6G (c:=a) (n:=D.length) (by omega);obtain⟨j,hj⟩:∃ j:Nat,a2s a D.length=j:=⟨(a2s a D.length).toNat,by omega⟩;have hjl:j<D.length:=by omega
  have PK:=a0b (f4k a D.length w h1 h2 (by omega) (by omega));rw[hj] at PK;clear hb hj hD h1 h2;have hk:D[j]?=some D[j]:=List.getElem?_eq_getElem hjl;generalize D[j]=k at hk;obtain⟨g0,q0,e0,y0⟩:=e4k hx.xo (k:=j) (u:=.pointer (some ⟨k.p,0,none⟩)) (by rw[List.getElem?_map,hk];rfl);obtain⟨g1,q1,e1,y1⟩:=e4k hx.yo (k:=j) (u:=.pointer (some ⟨k.dd,0,none⟩)) (by rw[List.getElem?_map,hk];rfl);simp only[Value.slice.injEq,true_and] at e0 e1;obtain⟨rfl,rfl⟩:=e0;obtain⟨rfl,rfl⟩:=e1;obtain⟨o,hT,hDc,hf⟩:=f7P ht;have DO:=a0b (g3G (hx.ds.at_ j k hk).bd (f9k ht) hT hf);have OK:=a0b (f7Z (hx.ds.at_ j k hk).bd.ds.inv hT hf);have RD:Hid (∀ W,DD W k.dd k.s k.xs k.F->Calls Tryz.prog 75 #[.pointer (some ⟨k.dd,0,none⟩),.string t] W (DDo W k.dd k.F k.xs (d4I k.s o))):=fun W hW=>f8p hW (hx.ds.at_ j k hk).bd.ds.inv hDc hf
  have BT:=a0b (zA (HX.out.tb B (by simp[bkB])) (HX.out.ty g1 rfl));have HK:=a0b hk;generalize d4I k.s o=q at *;clear hx ht hT hDc hf hk;have hjl':(j:Int)<(D.length:Int):=by omega
  go_enter Tryz.func54,Tryz.ntmps54
  go_upto_region 4 with (first|(go_at_call 74;refine PK.out.mono ?_;rintro e w1 ⟨rfl,hw⟩;rw[hw];clear hw w1))
  go_upto_region 5 with (first|(go_at_call 21;refine DO.out.mono ?_;rintro e w1 ⟨v,rfl,bp⟩;have BP:=a0b bp;obtain⟨r',col',_,_,u1,u2,u3,u4,l0,rfl,hl0,e1,e2,e3,e4,_,_⟩:=bp;obtain⟨b1,d1,rfl⟩:=a0B e1.own;obtain⟨b2,d2,rfl⟩:=e2.slice;obtain⟨b3,d3,rfl⟩:=e3.slice;obtain⟨b4,d4,rfl⟩:=e4.slice;have z1:=(zo (HX.out.still HK.out BP.out (b:=B) (by rw[BT.out.1];simp) (by rw[BT.out.1];simp))).trans x1;have z2:=(zo (HX.out.still HK.out BP.out (b:=g1) (by rw[BT.out.2];simp) (by rw[BT.out.2];simp))).trans y1;clear hl0 e1 e2 e3 e4 x0 x1 y0 y1 DO PK;simp only[a0s]))
  have M1:=a0b (HX.out.mid1 HK.out BP.out);change Code.wp _ _ _ _ (w1.alloc (d9E q.2.err q.2.at_ q.2.n (.slice b1 l0.length d1) (.slice b2 q.2.days.length d2) (.slice b3 q.2.granted.length d3) (.slice b4 q.2.ended.length d4)));have RDW:=a0b (RD.out _ (M1.out.lx.ds.doc M1.out.hi M1.out.bp));have z3:=a0a ((zr _ w1).alloc (zq _) (d9E q.2.err q.2.at_ q.2.n (.slice b1 l0.length d1) (.slice b2 q.2.days.length d2) (.slice b3 q.2.granted.length d3) (.slice b4 q.2.ended.length d4))) z1;have z4:=a0a ((zr _ w1).alloc (zq _) (d9E q.2.err q.2.at_ q.2.n (.slice b1 l0.length d1) (.slice b2 q.2.days.length d2) (.slice b3 q.2.granted.length d3) (.slice b4 q.2.ended.length d4))) z2;clear z1 z2 RD BP BT HX HK;generalize w1.alloc (d9E q.2.err q.2.at_ q.2.n (.slice b1 l0.length d1) (.slice b2 q.2.days.length d2) (.slice b3 q.2.granted.length d3) (.slice b4 q.2.ended.length d4))=W1 at *;generalize w1.heap.size=Q at *
  go_upto_region 6 with (first|(go_at_call 75;refine RDW.out.mono ?_;rintro e w2 dd;have DDH:=a0b dd;obtain⟨y1,y2,y3,y4,xs',F',rfl,tl,nv,_⟩:=dd;obtain⟨le,ev,_⟩:=tl.en;obtain⟨f1,g2,rfl⟩:=ev.form;obtain⟨f2,g3,rfl⟩:=tl.da.form;obtain⟨f3,g4,rfl⟩:=nv.form;obtain⟨f4,g5,rfl⟩:=tl.ed.form;clear tl nv ev z3 z4 RDW;simp only[a0s]))
  change Code.wp _ _ _ _ (w2.alloc (d9E q.2.err q.2.at_ q.2.n (.slice f1 le.length g2) (.slice f2 q.2.days.length g3) (.slice f3 q.2.granted.length g4) (.slice f4 q.2.ended.length g5)));obtain⟨tg',D',l,m2⟩:=M1.out.mid2 DDH.out;have M2:=a0b m2;obtain⟨a0,a1,a2,a3,a4,a5,a6⟩:=r7 m2.hQ;obtain⟨s0,s1,s2,s3,s4,s5,s6⟩:=r7 m2.hR;have SR:=a0b (e1u _ q.2 OK.out.1 _ _ _ _ _ _ _ _ (m2.rl.a0s m2.hl) m2.rv);simp only[a0s] at SR;clear m2 M1 DDH;generalize w2.alloc (d9E q.2.err q.2.at_ q.2.n (.slice f1 le.length g2) (.slice f2 q.2.days.length g3) (.slice f3 q.2.granted.length g4) (.slice f4 q.2.ended.length g5))=W2 at *;generalize w2.heap.size=R at *
  go_upto_region 7 with (first|(go_at_call 76;refine SR.out.mono ?_;rintro e w3 ⟨rfl,hb3⟩;have M3:=a0b (M2.out.later hb3);clear hb3 a0 a1 a2 a3 a4 a5 a6 s0 s1 s2 s3 s4 s5 s6 SR))
  obtain⟨a0,a1,a2,a3,a4,a5,a6⟩:=r7 M3.out.hQ;have KP:=a0b ((M3.out.later (a0q w3)).a9i hn OK.out.1 OK.out.2);clear M2 M3 OK
  go_region_law (first
   |(refine a2k (by rfl) 77 _ _ (by rfl) _ (by simp[Act.eval]) (g2b _ _) KP.out ?_;rintro e w4 ⟨rfl,h4⟩;refine⟨_,rfl,?_⟩;have H4:=a0b h4;clear h4))
  all_goals
   go_wp2_with fail
   go_ret;exact⟨rfl,H4.out⟩
end
variable {w w1 w2:World}{B:Nat}{v0 v1 r1 r2 r3:Value}{K:List Nat}{X1 X2 X3:List KL}
theorem g4m{X:List KL}(hk:k<X.length)(o:Nat)(ho:o<5):(X.flatMap klV)[k*5+o]?=(klV X[k])[o]?:=by
 induction X generalizing k with
 |nil=>simp at hk
 |cons a r ih =>
  cases k with
  |zero=>rw[List.flatMap_cons,Nat.zero_mul,Nat.zero_add,List.getElem?_append_left (by simpa[klV] using ho)];rfl
  |succ k =>
   have:=ih (k:=k) (by simpa using hk);rw[List.flatMap_cons,List.getElem?_append_right (by simp[klV];omega)];simp only[klV,List.length_cons,List.length_nil,List.getElem_cons_succ] at this ⊢;rw[<- this]
   congr 1
   omega
theorem e7E.look{P:Int->List Value}{t:TypeId}{r:Value}{X:List KL}(h:e7E P t K w r X)(hk:k<X.length):∃ (g cap:Nat)(a1 a2 a3 a4:Option Addr)(j c1 c2 c3 c4:Nat)(m:Int),r=.slice (some ⟨g,0,none⟩) X.length cap/\w.cell? ⟨g,k*5,none⟩=some (.slice a1 j c1)/\w.cell? ⟨g,k*5+1,none⟩=some (.slice a2 (j+1) c2)/\w.cell? ⟨g,k*5+2,none⟩=some (.slice a3 (j+2) c3)/\w.cell? ⟨g,k*5+3,none⟩=some (.slice a4 (j+3) c4)/\w.cell? ⟨g,k*5+4,none⟩=some (.int .i64 m) /\
  j<=900000/\Fu (P m) w (.slice a1 j c1) j/\Fu (P m) w (.slice a2 (j+1) c2) (j+1)/\Fu (P m) w (.slice a3 (j+2) c3) (j+2)/\Fu (P m) w (.slice a4 (j+3) c4) (j+3):=by
 obtain⟨j,hj,f1,f2,f3,f4⟩:=h.four _ (zg hk);obtain⟨a1,c1,e1⟩:=f1.form;obtain⟨a2,c2,e2⟩:=f2.form;obtain⟨a3,c3,e3⟩:=f3.form;obtain⟨a4,c4,e4⟩:=f4.form
 have c:∀ o v,o<5->(klV X[k])[o]?=some v->∃ g cap,r=.slice (some ⟨g,0,none⟩) X.length cap/\w.cell? ⟨g,k*5+o,none⟩=some v:=fun o v ho hv=>by
  have hc:=(g4m hk o ho).trans hv;rcases h.own.2 with ⟨rfl,hn⟩|⟨g,cap,cur,rfl,_,hh,_⟩
  ·omega
  ·exact⟨g,cap,rfl,(f6U g (k*5+o)) ▸ h.own.cells (g:=g) rfl _ v hc⟩
 obtain⟨g,cap,rfl,y0⟩:=c 0 _ (by decide) rfl
 have c':∀ o v,o<5->(klV X[k])[o]?=some v->w.cell? ⟨g,k*5+o,none⟩=some v:=fun o v ho hv=>by
  obtain⟨g',cap',e,y⟩:=c o v ho hv;simp only[Value.slice.injEq,Option.some.injEq,Addr.mk.injEq,and_true,true_and] at e;obtain⟨rfl,rfl⟩:=e;exact y
 have y1:=c' 1 _ (by decide) rfl;have y2:=c' 2 _ (by decide) rfl;have y3:=c' 3 _ (by decide) rfl;have y4:=c' 4 _ (by decide) rfl;rw[Nat.add_zero] at y0;rw[e1] at y0 f1;rw[e2] at y1 f2;rw[e3] at y2 f3;rw[e4] at y3 f4;exact⟨g,cap,a1,a2,a3,a4,j,c1,c2,c3,c4,_,rfl,y0,y1,y2,y3,y4,hj,f1,f2,f3,f4⟩
def bx5(t:TypeId)(a b c d e:Value):Obj:=.cells #[a,b,c,d,e] t
theorem f5k(h:BK w B v0 v1 K r1 r2 r3 X1 X2 X3)(hm:X1.length+X2.length+X3.length<=1000000000):
  Calls Tryz.prog 42 #[.pointer (some ⟨B,2,none⟩)] w fun e w'=>e=.returned (.bool true)/\Below w.heap.size w w':=by
 have HB:=a0b h;obtain⟨⟨p1,s1,e1⟩,⟨p2,s2,e2⟩,p3,s3,e3⟩:=h.forms;subst e1 e2 e3;clear h
 go_enter Tryz.func42,Tryz.ntmps42
 go_wp2_with fail
 have HW1:Hid (Below w.heap.size w w):=zr _ _
 go_loopw [3] (fun v wr=>∃ k:Nat,k<=X1.length/\v=.int .i64 k/\Below w.heap.size w wr) (fun v _=>X1.length-(intOf v).toNat)
 case atStart=>exact⟨0,Nat.zero_le _,rfl,HW1.out⟩
 case round =>
  obtain⟨k,hk,rfl,hbl⟩:=hrel;have HR:=a0b hbl;have hBr:=HB.out.later hbl;obtain⟨_,_,d2,d3,d4,_⟩:=hBr.cells;clear hbl
  by_cases hlt:k<X1.length
  ·have hlt':(k:Int)<(X1.length:Int):=by omega
   obtain⟨g,cap,a1,a2,a3,a4,j,c1,c2,c3,c4,m,e,y0,y1,y2,y3,y4,hj,f1,f2,f3,f4⟩:=hBr.br.b1.look hlt;simp only[Value.slice.injEq,true_and] at e;obtain⟨rfl,rfl⟩:=e;have FF:=a0b (fun W (kW:Below wr.heap.size wr W)=>zA (d2d j m _ W (f1.later kW).nv (by omega)) (zA (d2d (j+1) m _ W (f2.later kW).nv (by omega)) (zA (d2d (j+2) m _ W (f3.later kW).nv (by omega)) (d2d (j+3) m _ W (f4.later kW).nv (by omega)))));clear f1 f2 f3 f4 hBr
   go_upto_region 5 with fail
   change Code.wp _ _ _ _ (wr.alloc (bx5 tI (.slice a1 j c1) (.slice a2 (j+1) c2) (.slice a3 (j+2) c3) (.slice a4 (j+3) c4) (.int .i64 m)));have BX:=a0b (zA ((zr _ wr).alloc (zq _) (bx5 tI (.slice a1 j c1) (.slice a2 (j+1) c2) (.slice a3 (j+2) c3) (.slice a4 (j+3) c4) (.int .i64 m))) (a0p wr (bx5 tI (.slice a1 j c1) (.slice a2 (j+1) c2) (.slice a3 (j+2) c3) (.slice a4 (j+3) c4) (.int .i64 m))));generalize wr.alloc (bx5 tI (.slice a1 j c1) (.slice a2 (j+1) c2) (.slice a3 (j+2) c3) (.slice a4 (j+3) c4) (.int .i64 m))=Z0 at BX ⊢
   have CL:Hid (∀ W,Below Z0.heap.size Z0 W->W.cell? ⟨wr.heap.size,0,none⟩=some (.slice a1 j c1)/\W.cell? ⟨wr.heap.size,1,none⟩=some (.slice a2 (j+1) c2)/\W.cell? ⟨wr.heap.size,2,none⟩=some (.slice a3 (j+2) c3)/\W.cell? ⟨wr.heap.size,3,none⟩=some (.slice a4 (j+3) c4)/\W.cell? ⟨wr.heap.size,4,none⟩=some (.int .i64 m)):=fun W kW=>by
    have hb:=(kW.block _ (Array.getElem?_eq_some_iff.1 BX.out.2).1).trans BX.out.2;exact⟨d0h hb 0 rfl,d0h hb 1 rfl,d0h hb 2 rfl,d0h hb 3 rfl,d0h hb 4 rfl⟩
   clear y0 y1 y2 y3 y4 d2 d3 d4;obtain⟨x0,_,_,_,x4⟩:=CL.out _ (zr _ _)
   go_upto_region 6 with (first|(go_at_call 56;refine (FF.out _ BX.out.1).1.mono ?_;rintro e w1 ⟨rfl,h1⟩;have B1:=a0b h1;clear h1))
   clear x0 x4;obtain⟨_,x1,_,_,x4⟩:=CL.out _ B1.out
   go_upto_region 7 with (first|(go_at_call 56;refine (FF.out _ (a0j BX.out.1 B1.out (zq _))).2.1.mono ?_;rintro e w2 ⟨rfl,h2⟩;have B2:=a0b (a0j B1.out h2 (zq _));clear h2))
   clear x1 x4;obtain⟨_,_,x2,_,x4⟩:=CL.out _ B2.out
   go_upto_region 8 with (first|(go_at_call 56;refine (FF.out _ (a0j BX.out.1 B2.out (zq _))).2.2.1.mono ?_;rintro e w3 ⟨rfl,h3⟩;have B3:=a0b (a0j B2.out h3 (zq _));clear h3))
   clear x2 x4;obtain⟨_,_,_,x3,x4⟩:=CL.out _ B3.out
   go_upto_region 9 with (first|(go_at_call 56;refine (FF.out _ (a0j BX.out.1 B3.out (zq _))).2.2.2.mono ?_;rintro e w4 ⟨rfl,h4⟩;have B4:=a0b (a0j B3.out h4 (zq _));clear h4))
   go_wp2_with fail
   go_roundw
   case rel=>exact⟨k+1,by omega,by go_num,a0j HR.out (a0j BX.out.1 B4.out (zq _)) (zq _)⟩
   case measure=>simp[intOf];omega
  ·have hlt':¬ (k:Int)<(X1.length:Int):=by omega
   clear hBr
   go_wp2_with fail
   have HW2:=a0b HR.out;clear d2 d3 d4 hlt hlt' hk HR
   go_loopw [9] (fun v wr=>∃ k:Nat,k<=X2.length/\v=.int .i64 k/\Below w.heap.size w wr) (fun v _=>X2.length-(intOf v).toNat)
   case atStart=>exact⟨0,Nat.zero_le _,rfl,HW2.out⟩
   case round =>
    obtain⟨k,hk,rfl,hbl⟩:=hrel;have HR:=a0b hbl;have hBr:=HB.out.later hbl;obtain⟨_,_,d2,d3,d4,_⟩:=hBr.cells;clear hbl
    by_cases hlt:k<X2.length
    ·have hlt':(k:Int)<(X2.length:Int):=by omega
     obtain⟨g,cap,a1,a2,a3,a4,j,c1,c2,c3,c4,m,e,y0,y1,y2,y3,y4,hj,f1,f2,f3,f4⟩:=hBr.br.b2.look hlt;simp only[Value.slice.injEq,true_and] at e;obtain⟨rfl,rfl⟩:=e;have FF:=a0b (fun W (kW:Below wr.heap.size wr W)=>zA (d1s j m _ W (f1.later kW).sv (by omega)) (zA (d1s (j+1) m _ W (f2.later kW).sv (by omega)) (zA (d1s (j+2) m _ W (f3.later kW).sv (by omega)) (d1s (j+3) m _ W (f4.later kW).sv (by omega)))));clear f1 f2 f3 f4 hBr
     go_upto_region 15 with fail
     change Code.wp _ _ _ _ (wr.alloc (bx5 tS (.slice a1 j c1) (.slice a2 (j+1) c2) (.slice a3 (j+2) c3) (.slice a4 (j+3) c4) (.int .i64 m)));have BX:=a0b (zA ((zr _ wr).alloc (zq _) (bx5 tS (.slice a1 j c1) (.slice a2 (j+1) c2) (.slice a3 (j+2) c3) (.slice a4 (j+3) c4) (.int .i64 m))) (a0p wr (bx5 tS (.slice a1 j c1) (.slice a2 (j+1) c2) (.slice a3 (j+2) c3) (.slice a4 (j+3) c4) (.int .i64 m))));generalize wr.alloc (bx5 tS (.slice a1 j c1) (.slice a2 (j+1) c2) (.slice a3 (j+2) c3) (.slice a4 (j+3) c4) (.int .i64 m))=Z0 at BX ⊢
     have CL:Hid (∀ W,Below Z0.heap.size Z0 W->W.cell? ⟨wr.heap.size,0,none⟩=some (.slice a1 j c1)/\W.cell? ⟨wr.heap.size,1,none⟩=some (.slice a2 (j+1) c2)/\W.cell? ⟨wr.heap.size,2,none⟩=some (.slice a3 (j+2) c3)/\W.cell? ⟨wr.heap.size,3,none⟩=some (.slice a4 (j+3) c4)/\W.cell? ⟨wr.heap.size,4,none⟩=some (.int .i64 m)):=fun W kW=>by
      have hb:=(kW.block _ (Array.getElem?_eq_some_iff.1 BX.out.2).1).trans BX.out.2;exact⟨d0h hb 0 rfl,d0h hb 1 rfl,d0h hb 2 rfl,d0h hb 3 rfl,d0h hb 4 rfl⟩
     clear y0 y1 y2 y3 y4 d2 d3 d4;obtain⟨x0,_,_,_,x4⟩:=CL.out _ (zr _ _)
     go_upto_region 16 with (first|(go_at_call 57;refine (FF.out _ BX.out.1).1.mono ?_;rintro e w1 ⟨rfl,h1⟩;have B1:=a0b h1;clear h1))
     clear x0 x4;obtain⟨_,x1,_,_,x4⟩:=CL.out _ B1.out
     go_upto_region 17 with (first|(go_at_call 57;refine (FF.out _ (a0j BX.out.1 B1.out (zq _))).2.1.mono ?_;rintro e w2 ⟨rfl,h2⟩;have B2:=a0b (a0j B1.out h2 (zq _));clear h2))
     clear x1 x4;obtain⟨_,_,x2,_,x4⟩:=CL.out _ B2.out
     go_upto_region 18 with (first|(go_at_call 57;refine (FF.out _ (a0j BX.out.1 B2.out (zq _))).2.2.1.mono ?_;rintro e w3 ⟨rfl,h3⟩;have B3:=a0b (a0j B2.out h3 (zq _));clear h3))
     clear x2 x4;obtain⟨_,_,_,x3,x4⟩:=CL.out _ B3.out
     go_upto_region 19 with (first|(go_at_call 57;refine (FF.out _ (a0j BX.out.1 B3.out (zq _))).2.2.2.mono ?_;rintro e w4 ⟨rfl,h4⟩;have B4:=a0b (a0j B3.out h4 (zq _));clear h4))
     go_wp2_with fail
     go_roundw
     case rel=>exact⟨k+1,by omega,by go_num,a0j HR.out (a0j BX.out.1 B4.out (zq _)) (zq _)⟩
     case measure=>simp[intOf];omega
    ·have hlt':¬ (k:Int)<(X2.length:Int):=by omega
     clear hBr
     go_wp2_with fail
     have HW3:=a0b HR.out;clear d2 d3 d4 hlt hlt' hk HR
     go_loopw [15] (fun v wr=>∃ k:Nat,k<=X3.length/\v=.int .i64 k/\Below w.heap.size w wr) (fun v _=>X3.length-(intOf v).toNat)
     case atStart=>exact⟨0,Nat.zero_le _,rfl,HW3.out⟩
     case round =>
      obtain⟨k,hk,rfl,hbl⟩:=hrel;have HR:=a0b hbl;have hBr:=HB.out.later hbl;obtain⟨_,_,d2,d3,d4,_⟩:=hBr.cells;clear hbl
      by_cases hlt:k<X3.length
      ·have hlt':(k:Int)<(X3.length:Int):=by omega
       obtain⟨g,cap,a1,a2,a3,a4,j,c1,c2,c3,c4,m,e,y0,y1,y2,y3,y4,hj,f1,f2,f3,f4⟩:=hBr.br.b3.look hlt;simp only[Value.slice.injEq,true_and] at e;obtain⟨rfl,rfl⟩:=e;have FF:=a0b (fun W (kW:Below wr.heap.size wr W)=>zA (d0B j m _ W (f1.later kW).ev (by omega)) (zA (d0B (j+1) m _ W (f2.later kW).ev (by omega)) (zA (d0B (j+2) m _ W (f3.later kW).ev (by omega)) (d0B (j+3) m _ W (f4.later kW).ev (by omega)))));clear f1 f2 f3 f4 hBr
       go_upto_region 25 with fail
       change Code.wp _ _ _ _ (wr.alloc (bx5 tE (.slice a1 j c1) (.slice a2 (j+1) c2) (.slice a3 (j+2) c3) (.slice a4 (j+3) c4) (.int .i64 m)));have BX:=a0b (zA ((zr _ wr).alloc (zq _) (bx5 tE (.slice a1 j c1) (.slice a2 (j+1) c2) (.slice a3 (j+2) c3) (.slice a4 (j+3) c4) (.int .i64 m))) (a0p wr (bx5 tE (.slice a1 j c1) (.slice a2 (j+1) c2) (.slice a3 (j+2) c3) (.slice a4 (j+3) c4) (.int .i64 m))));generalize wr.alloc (bx5 tE (.slice a1 j c1) (.slice a2 (j+1) c2) (.slice a3 (j+2) c3) (.slice a4 (j+3) c4) (.int .i64 m))=Z0 at BX ⊢
       have CL:Hid (∀ W,Below Z0.heap.size Z0 W->W.cell? ⟨wr.heap.size,0,none⟩=some (.slice a1 j c1)/\W.cell? ⟨wr.heap.size,1,none⟩=some (.slice a2 (j+1) c2)/\W.cell? ⟨wr.heap.size,2,none⟩=some (.slice a3 (j+2) c3)/\W.cell? ⟨wr.heap.size,3,none⟩=some (.slice a4 (j+3) c4)/\W.cell? ⟨wr.heap.size,4,none⟩=some (.int .i64 m)):=fun W kW=>by
        have hb:=(kW.block _ (Array.getElem?_eq_some_iff.1 BX.out.2).1).trans BX.out.2;exact⟨d0h hb 0 rfl,d0h hb 1 rfl,d0h hb 2 rfl,d0h hb 3 rfl,d0h hb 4 rfl⟩
       clear y0 y1 y2 y3 y4 d2 d3 d4;obtain⟨x0,_,_,_,x4⟩:=CL.out _ (zr _ _)
       go_upto_region 26 with (first|(go_at_call 58;refine (FF.out _ BX.out.1).1.mono ?_;rintro e w1 ⟨rfl,h1⟩;have B1:=a0b h1;clear h1))
       clear x0 x4;obtain⟨_,x1,_,_,x4⟩:=CL.out _ B1.out
       go_upto_region 27 with (first|(go_at_call 58;refine (FF.out _ (a0j BX.out.1 B1.out (zq _))).2.1.mono ?_;rintro e w2 ⟨rfl,h2⟩;have B2:=a0b (a0j B1.out h2 (zq _));clear h2))
       clear x1 x4;obtain⟨_,_,x2,_,x4⟩:=CL.out _ B2.out
       go_upto_region 28 with (first|(go_at_call 58;refine (FF.out _ (a0j BX.out.1 B2.out (zq _))).2.2.1.mono ?_;rintro e w3 ⟨rfl,h3⟩;have B3:=a0b (a0j B2.out h3 (zq _));clear h3))
       clear x2 x4;obtain⟨_,_,_,x3,x4⟩:=CL.out _ B3.out
       go_upto_region 29 with (first|(go_at_call 58;refine (FF.out _ (a0j BX.out.1 B3.out (zq _))).2.2.2.mono ?_;rintro e w4 ⟨rfl,h4⟩;have B4:=a0b (a0j B3.out h4 (zq _));clear h4))
       go_wp2_with fail
       go_roundw
       case rel=>exact⟨k+1,by omega,by go_num,a0j HR.out (a0j BX.out.1 B4.out (zq _)) (zq _)⟩
       case measure=>simp[intOf];omega
      ·have hlt':¬ (k:Int)<(X3.length:Int):=by omega
       clear hBr
       go_wp2_with fail
       go_ret;exact⟨rfl,HR.out⟩
theorem f0x(s:ByteArray)(w:World)(hs:s.size<=2000000):
  Calls Tryz.prog 59 #[.string s] w fun e w'=>∃ v,e=.returned v/\w'.ownsRow w.heap.size 9 1 v (Txt.a1v s).length ((Txt.a1v s).map Value.string)/\Below w.heap.size w w':=by
 obtain⟨i0,hi,hz0,hz1,hz2⟩:=info_parts e4B
 go_enter Tryz.func59,Tryz.ntmps59
 go_wp2
 go_loopw [3,4,5] (fun v c i wr=>∃ k:Nat,k<=s.size/\i=.int .i64 k/\c=.string (Txt.a8z s k)/\wr.ownsRow w.heap.size 9 1 v (Txt.b7w s k).length ((Txt.b7w s k).map Value.string)/\Below w.heap.size w wr) (fun _ _ i _=>s.size-(intOf i).toNat)
 case atStart=>exact⟨0,Nat.zero_le _,rfl,rfl,World.ownsRow_nil _ _ _ _,Below.refl _ _⟩
 case round =>
  obtain⟨k,hk,rfl,rfl,hown,hnx⟩:=hrel;have cz:=Txt.b7k s k
  by_cases hlt:k<s.size
  ·by_cases hb:Txt.a0V s k=32
   ·have hb':((s[k].toNat:Int)==32)=true:=beq_iff_eq.2 (by rw[<- Txt.a2W];exact hb);have HB:=hide (Txt.b3O s k hk hb);clear hb
    cases he:(Txt.a8z s k).toList.isEmpty
    ·have HE:Hid ((Txt.a8z s k).size≠0):=(d1p he);have hal:=Txt.b5J s k
     go_wp2_with (first
      |(at_builtin;refine wpList_append_own _ rfl _ _ 26 rfl w.heap.size 9 i0 (.string ⟨#[]⟩) 1 16 Tryz.underlying26 hi hz0 hz1 hz2 rfl (by decide) _ _ _ rfl (hown.alloc _) ⟨wr.heap.size,0,none⟩ 1 1 [.string (Txt.a8z s k)] rfl rfl ?c1 ?c2 ?c3 ?c4 ?c5 ?_)
      |go_in)
     case c1=>exact cell_one_new _ _ _
     case c2=>intro u hu;simp at hu;subst hu;rfl
     case c3=>unfold maxLen;omega
     case c4=>omega
     case c5=>have:=hnx.size;simp;omega
     intro v' w1 hown' hgrow _;go_wp2;refine⟨⟨k+1,by omega,by go_num,by rw[(a0d HB).1],?_,?_⟩,by simp[intOf];omega⟩
     ·rw[(a0d HB).2,if_neg HE.out,List.map_append,List.length_append];exact hown'
     ·refine (hnx.alloc hnx.size _).grown hgrow (by have:=hnx.size;simp;omega) (fun k hk=>?_);exact d0U hown hk
    ·have HE:Hid ((Txt.a8z s k).size=0):=(d4z he);go_wp2;exact⟨⟨k+1,by omega,by go_num,by rw[(a0d HB).1],by rw[(a0d HB).2,if_pos HE.out,List.append_nil];exact hown,hnx⟩,by simp[intOf];omega⟩
   ·have hb':((s[k].toNat:Int)==32)=false:=beq_eq_false_iff_ne.2 (by rw[<- Txt.a2W];exact hb);have HB:=hide (Txt.b7l s k hb);clear hb;go_wp2;exact⟨⟨k+1,by omega,by go_num,by rw[(a0d HB).1],by rw[(a0d HB).2];exact hown,hnx⟩,by simp[intOf];omega⟩
  ·obtain rfl:k=s.size:=by omega
   have HW:=hide (Txt.b2t s)
   cases he:(Txt.a8z s s.size).toList.isEmpty
   ·have HE:Hid ((Txt.a8z s s.size).size≠0):=(d1p he);have hal:=Txt.b5J s s.size
    go_wp2_with (first
     |(at_builtin;refine wpList_append_own _ rfl _ _ 26 rfl w.heap.size 9 i0 (.string ⟨#[]⟩) 1 16 Tryz.underlying26 hi hz0 hz1 hz2 rfl (by decide) _ _ _ rfl (hown.alloc _) ⟨wr.heap.size,0,none⟩ 1 1 [.string (Txt.a8z s s.size)] rfl rfl ?c1 ?c2 ?c3 ?c4 ?c5 ?_)
     |go_in)
    case c1=>exact cell_one_new _ _ _
    case c2=>intro u hu;simp at hu;subst hu;rfl
    case c3=>unfold maxLen;omega
    case c4=>omega
    case c5=>have:=hnx.size;simp;omega
    intro v' w1 hown' hgrow _;go_wp2;go_ret;refine⟨v',rfl,?_,?_⟩
    ·rw[a0d HW,if_neg HE.out,List.map_append,List.length_append];exact hown'
    ·refine (hnx.alloc hnx.size _).grown hgrow (by have:=hnx.size;simp;omega) (fun k hk=>?_);exact d0U hown hk
   ·have HE:Hid ((Txt.a8z s s.size).size=0):=(d4z he);go_wp2;go_ret;exact⟨_,rfl,by rw[a0d HW,if_pos HE.out,List.append_nil];exact hown,hnx⟩
def d9x(w:World)(g:Nat)(L:List ByteArray):Prop:=∀ (j:Nat)(hj:j<L.length),w.cell? ⟨g,j,none⟩=some (.string L[j])
theorem d9x.later(h:d9x w g L)(k:Below w.heap.size w w'):d9x w' g L:=fun j hj=>a0a k (h j hj)
def g4A(s:ByteArray)(L:List ByteArray)(w:World)(e:Ending)(w':World):Prop:=∃ b,e=.returned (.bool b)/\(b=true->∃ k∈L,isB (Txt.a1v s) 0 false k=true)/\Below w.heap.size w w'
theorem e4v(s:ByteArray)(w:World)(hs:s.size<=2000000)(hL:d9x w g L)(hl:L.length<=100):
  Calls Tryz.prog 43 #[.string s,.slice (some ⟨g,0,none⟩) L.length c] w (g4A s L w):=by
 have HW:=a0b (f0x s w hs);have HL:=a0b hL;clear hL
 go_enter Tryz.func43,Tryz.ntmps43
 go_wp2_with (first|(go_at_call 59;refine HW.out.mono ?_;rintro e w1 ⟨v,rfl,ho,hb⟩;have HO:=a0b (zA ho hb);obtain⟨va,vc,rfl⟩:=c9y ho;clear ho hb))
 have HL1:=a0b (HL.out.later HO.out.2)
 go_loopw [6] (fun v wr=>∃ k:Nat,k<=L.length/\v=.int .i64 k/\wr.heap=w1.heap/\Below w.heap.size w wr) (fun v _=>L.length-(intOf v).toNat)
 case atStart=>exact⟨0,Nat.zero_le _,rfl,rfl,HO.out.2⟩
 case round =>
  obtain⟨k,hk,rfl,hh,hbl⟩:=hrel;have HB:=a0b hbl;clear hbl
  by_cases hlt:k<L.length
  ·have hlt':(k:Int)<(L.length:Int):=by omega
   by_cases h0:0<(Txt.a1v s).length
   ·have h0':(0:Int)<((Txt.a1v s).length:Int):=by omega
    obtain⟨g1,c1,e1,y1⟩:=e4k HO.out.1 (k:=0) (u:=.string ((Txt.a1v s).getD 0 ByteArray.empty)) (by
     rw[List.getElem?_map,List.getD_eq_getElem?_getD,List.getElem?_eq_getElem h0];rfl)
    simp only[Value.slice.injEq,true_and] at e1;obtain⟨rfl,rfl⟩:=e1;have y1':wr.cell? ⟨g1,0,none⟩=some (.string ((Txt.a1v s).getD 0 ByteArray.empty)):=by rw[<- y1];simp only[World.cell?,hh]
    have y2:wr.cell? ⟨g,k,none⟩=some (.string L[k]):=by rw[<- HL1.out k hlt];simp only[World.cell?,hh]
    clear y1;obtain⟨x,hx⟩:∃ x,(Txt.a1v s).getD 0 ByteArray.empty=x:=⟨_,rfl⟩;obtain⟨z,hz⟩:∃ z,L[k]=z:=⟨_,rfl⟩;rw[hx] at y1';rw[hz] at y2;have HZ:Hid (z∈L/\((x.toList==z.toList)=true->isB (Txt.a1v s) 0 false z=true)):=⟨hz ▸ zg hlt,fun hq=>by simp only[isB,a1b,hx,hq];simp[h0]⟩;clear hx hz
    cases hq:x.toList==z.toList
    ·go_upto_region 5 with fail
     go_quiet (fail)
     go_wp2_with fail
     exact⟨⟨k+1,by omega,by go_num,hh,d7M HB.out _⟩,by simp[intOf];omega⟩
    ·have HI:=a0b (HZ.out.2 hq)
     go_upto_region 5 with fail
     go_quiet (fail)
     go_wp2_with fail
     go_ret;exact⟨true,rfl,fun _=>⟨z,HZ.out.1,HI.out⟩,d7M HB.out _⟩
   ·have h0':¬ (0:Int)<((Txt.a1v s).length:Int):=by omega
    go_wp2_with fail
    go_ret;exact⟨false,rfl,by simp,HB.out⟩
  ·have hlt':¬ (k:Int)<(L.length:Int):=by omega
   go_wp2_with fail
   go_ret;exact⟨false,rfl,by simp,HB.out⟩
namespace Txt
theorem e9C:∀ (l:List UInt8)(x:List (List UInt8) × List UInt8),∃ t,c1V (l.foldl b1m x)=x.1++t
 |[],x=>by
  unfold c1V
  by_cases h:x.2=[]
  ·exact⟨[],by simp[h]⟩
  ·exact⟨[x.2],by simp[h]⟩
 |c :: l,x=>by
  obtain⟨t,ht⟩:=e9C l (b1m x c);rw[List.foldl_cons,ht];unfold b1m
  by_cases h:c=32
  ·rw[if_pos h]
   by_cases h2:x.2=[]
   ·exact⟨t,by simp[h2]⟩
   ·exact⟨[x.2]++t,by simp[h2]⟩
  ·exact⟨t,by rw[if_neg h]⟩
theorem f5E{s k:ByteArray}(hk:a3V k.data.toList=true)(h:s.data.toList=k.data.toList\/∃ r,s.data.toList=k.data.toList++32 :: r):∃ R,a1v s=k :: R:=by
 obtain⟨h1,h2⟩:=a8C.1 hk
 have key:∃ t,b2u s.data.toList=k.data.toList :: t:=by
  unfold b2u c4p;rcases h with e|⟨r,e⟩
  ·rw[e,b3A h2];exact⟨[],by simp[c1V,h1]⟩
  ·rw[e,List.foldl_append,b3A h2,List.foldl_cons,b7S];obtain⟨t,ht⟩:=e9C r (c1V ([],[]++k.data.toList),[]);rw[ht];exact⟨t,by simp[c1V,h1]⟩
 obtain⟨t,ht⟩:=key;rw[<- b7B] at ht
 cases hw:a1v s with
 |nil=>rw[hw] at ht;simp at ht
 |cons a R =>
  rw[hw] at ht;simp only[List.map_cons,List.cons.injEq] at ht;exact⟨R,by rw[c1t ht.1]⟩
end Txt
theorem e9e(p ws:List ByteArray):∀ n:Nat,(e0k p ws (n+1)).data.toList=(wrS (p.getD 0 ⟨#[]⟩) (ws.getD 0 ⟨#[]⟩)).data.toList\/∃ r,(e0k p ws (n+1)).data.toList=(wrS (p.getD 0 ⟨#[]⟩) (ws.getD 0 ⟨#[]⟩)).data.toList++32 :: r
 |0=>by
  left;simp[e0k]
 |n+1=>by
  right;rw[e0k,if_pos (by omega),Txt.a1X,Txt.a1X];rcases e9e p ws n with e|⟨r,e⟩
  ·rw[e];exact⟨_,by rw[List.append_assoc];rfl⟩
  ·rw[e];exact⟨r++(32 :: (wrS (p.getD (n+1) ⟨#[]⟩) (ws.getD (n+1) ⟨#[]⟩)).data.toList),by simp⟩
theorem f9j{k:ByteArray}(hk:k∈e7g):Txt.a3V k.data.toList=true/\wrS k k=k:=by
 simp only[e7g,List.mem_cons,List.not_mem_nil,or_false] at hk;rcases hk with rfl|rfl|rfl|rfl|rfl|rfl|rfl <;> exact⟨by decide +kernel,by decide +kernel⟩
theorem f9q{q:List ByteArray}{l:Desk.a7U}(hF:Full t q)(hq:e2P (Txt.a1v t) q l)(hf:g1X l=true):∃ k∈e7g,(Txt.a1v t).getD 0 ByteArray.empty=k/\∃ R,q=k :: R:=by
 cases hq with
 |a0k=>exact⟨a3F,by simp[e7g],hF.head (by decide +kernel),_,rfl⟩
 |book=>exact⟨a9P,by simp[e7g],hF.head (by decide +kernel),_,rfl⟩
 |cancel=>exact⟨a6m,by simp[e7g],hF.head (by decide +kernel),_,rfl⟩
 |list0=>exact⟨a5Q,by simp[e7g],hF.head (by decide +kernel),_,rfl⟩
 |list1=>exact⟨a5Q,by simp[e7g],hF.head (by decide +kernel),_,rfl⟩
 |peak=>exact⟨a9a,by simp[e7g],hF.head (by decide +kernel),_,rfl⟩
 |find=>exact⟨b5h,by simp[e7g],hF.head (by decide +kernel),_,rfl⟩
 |clock=>exact⟨b1c,by simp[e7g],hF.head (by decide +kernel),_,rfl⟩
 |_=>cases hf
theorem f5R(h:f9Y t){p:List ByteArray}(hp:g0V t=(some p,0)):f9Y (e0k p (Txt.a1v t) (Txt.a1v t).length):=by
 obtain⟨v,st,_,hn,hd⟩:=e9M h
 by_cases hb:st.2=true\/a1b (Txt.a1v t).length st.1 st.2=true
 ·have:=hn hb;rw[hp] at this
  cases this
 ·have h2:st.2=false:=by cases e:st.2 <;> simp_all
  have h3:a1b (Txt.a1v t).length st.1 st.2=false:=by cases e:a1b (Txt.a1v t).length st.1 st.2 <;> simp_all
  obtain⟨q,l,x1,x2,_,_,x5⟩:=hd h2 h3;have e:=x1.sc;rw[hp] at e;simp only[Prod.mk.injEq,Option.some.injEq,and_true] at e;subst e;obtain⟨k,hk,hw,R,rfl⟩:=f9q x1 x2 x5;obtain⟨w1,w2⟩:=f9j hk;have hl:=x1.len;simp only[List.length_cons] at hl;rw[hl];have ho:=e9e (k :: R) (Txt.a1v t) R.length
  have e0:wrS ((k :: R).getD 0 ⟨#[]⟩) ((Txt.a1v t).getD 0 ⟨#[]⟩)=k:=by
   have:(Txt.a1v t).getD 0 ⟨#[]⟩=k:=hw;rw[this];exact w2
  rw[e0] at ho;obtain⟨T,hT⟩:=Txt.f5E w1 ho;exact⟨k,hk,by rw[hT];simp[isB,a1b]⟩
structure OpX where
 k:Int
 a:Int
 y:Int
 m:Int
 d:Int
 s:ByteArray
def opC(x:OpX):List Value:=[.int .i64 x.k,.int .i64 x.a,.int .i64 x.y,.int .i64 x.m,.int .i64 x.d,.string x.s]
structure g4K(x:OpX):Prop where
 a1:-9223372036854775808<=x.a
 a2:x.a<=9223372036854775807
 sz:x.s.size<=2000000
def g2D(w:World)(b o:Nat)(x:OpX):Prop:=w.cell? ⟨b,o,none⟩=some (.int .i64 x.k)/\w.cell? ⟨b,o+1,none⟩=some (.int .i64 x.a)/\w.cell? ⟨b,o+2,none⟩=some (.int .i64 x.y)/\w.cell? ⟨b,o+3,none⟩=some (.int .i64 x.m)/\w.cell? ⟨b,o+4,none⟩=some (.int .i64 x.d)/\w.cell? ⟨b,o+5,none⟩=some (.string x.s)
theorem g2D.later{o:Nat}{x:OpX}(h:g2D w b o x)(k:Below w.heap.size w w'):g2D w' b o x:=by
 obtain⟨h0,h1,h2,h3,h4,h5⟩:=h;exact⟨a0a k h0,a0a k h1,a0a k h2,a0a k h3,a0a k h4,a0a k h5⟩
theorem g4h{X:List OpX}(hk:k<X.length)(o:Nat)(ho:o<6):(X.flatMap opC)[k*6+o]?=(opC X[k])[o]?:=by
 induction X generalizing k with
 |nil=>simp at hk
 |cons a r ih =>
  cases k with
  |zero=>rw[List.flatMap_cons,Nat.zero_mul,Nat.zero_add,List.getElem?_append_left (by simpa[opC] using ho)];rfl
  |succ k =>
   have:=ih (k:=k) (by simpa using hk);rw[List.flatMap_cons,List.getElem?_append_right (by simp[opC];omega)];simp only[opC,List.length_cons,List.length_nil,List.getElem_cons_succ] at this ⊢;rw[<- this]
   congr 1
   omega
def f9X(x:OpX):Prop:=g4K x/\(x.k=4\/(5<=x.k/\f9Y x.s))
section
variable {w0 w w':World}{B n:Nat}
theorem LW.env(h:LW w0 w B n):Env w:=by
 obtain⟨tg,D,K,v0,v1,r1,r2,r3,X1,X2,X3,h⟩:=h;exact h.ds.env
theorem LW.bl(h:LW w0 w B n):Below w0.heap.size w0 w:=by
 obtain⟨tg,D,K,v0,v1,r1,r2,r3,X1,X2,X3,h⟩:=h;exact h.bl
theorem LW.looks(h:LW w0 w B n)(hn:n<=900000000):Calls Tryz.prog 42 #[.pointer (some ⟨B,2,none⟩)] w fun e w'=>e=.returned (.bool true)/\LW w0 w' B n:=by
 have h':=h;obtain⟨tg,D,K,v0,v1,r1,r2,r3,X1,X2,X3,h⟩:=h;refine (f5k h.bk (by have:=h.len;omega)).mono ?_;rintro e w1 ⟨rfl,hb⟩;exact⟨rfl,h'.later hb⟩
def zW:Obj:=.cells #[.slice none 0 0,.slice none 0 0,.slice none 0 0,.slice none 0 0,.slice none 0 0] 86
theorem LW.start(he:Env w):LW w (w.alloc zW) w.heap.size 0:=by
 have hb:Below w.heap.size w (w.alloc zW):=(zr _ _).alloc (zq _) _;have hs:(w.alloc zW).heap.size=w.heap.size+1:=by simp
 have h10:=he.size;have row:∀ {P:Int->List Value}{t:TypeId},e7E P t [] (w.alloc zW) (.slice none 0 0) []:=⟨World.ownsRow_nil _ _ _ _,by simp,by simp⟩;have bb:∀ b∈bkB w.heap.size (.slice none 0 0) (.slice none 0 0) (.slice none 0 0),b=w.heap.size:=fun b hb=>by simpa[bkB,Value.ownBlock] using hb
 refine⟨fun b=>if b=w.heap.size then .bk else .no,[],[],.slice none 0 0,.slice none 0 0,.slice none 0 0,.slice none 0 0,.slice none 0 0,[],[],[],⟨⟨fun i k hk=>by simp at hk,he.later hb,fun b hb=>?_,fun b hb=>if_neg (by omega)⟩,⟨a0p w _,⟨row,row,row,by simp⟩,by simp⟩,by simp,World.ownsRow_nil _ _ _ _,World.ownsRow_nil _ _ _ _,fun b hb=>if_pos (bb b hb),by simp,fun b hb=>(by cases hb),fun b hb=>(by cases hb),by simp,hb,fun b hb=>?_,h10⟩⟩
 ·by_cases e:b=w.heap.size
  ·omega
  ·exact (hb (if_neg e)).elim
 ·by_cases e:b=w.heap.size
  ·omega
  ·exact (hb (if_neg e)).elim
def opO(x:OpX):Obj:=.cells #[.int .i64 x.k,.int .i64 x.a,.int .i64 x.y,.int .i64 x.m,.int .i64 x.d,.string x.s] 89
theorem f7Y(h:LW w0 w B n)(x:OpX)(hx:f9X x)(hk:x.k<=6)(hn:n+64<=900000000):
  Calls Tryz.prog 41 #[.pointer (some ⟨B,0,none⟩),.agg #[.int .i64 x.k,.int .i64 x.a,.int .i64 x.y,.int .i64 x.m,.int .i64 x.d,.string x.s]] w fun e w'=>e=.returned (.bool true)/\LW w0 w' B (n+64):=by
 obtain⟨hok,hx⟩:=hx;have kW:Below w.heap.size w (w.alloc (opO x)):=(zr _ _).alloc (zq _) _;have HW:=a0b (h.later kW);have hq:=a0p w (opO x)
 have CL:Hid (∀ W,Below (w.alloc (opO x)).heap.size (w.alloc (opO x)) W->W.cell? ⟨w.heap.size,0,none⟩=some (.int .i64 x.k)/\W.cell? ⟨w.heap.size,1,none⟩=some (.int .i64 x.a)/\W.cell? ⟨w.heap.size,5,none⟩=some (.string x.s)):=fun W k=>by
  have hb:=(k.block _ (Array.getElem?_eq_some_iff.1 hq).1).trans hq;exact⟨d0h hb 0 rfl,d0h hb 1 rfl,d0h hb 5 rfl⟩
 obtain⟨c0,c1,c5⟩:=CL.out _ (zr _ _)
 have hkk:x.k=4\/x.k=5\/x.k=6:=by
  rcases hx with e|⟨e,_⟩
  ·exact .inl e
  ·omega
 have hF:x.k≠4->f9Y x.s:=fun e=>by
  rcases hx with e1|⟨_,e1⟩
  ·exact (e e1).elim
  ·exact e1
 clear kW hq hx h hk;obtain⟨k,a,y,m,d,s⟩:=x;obtain⟨ha1,ha2,hsz⟩:=hok;dsimp only at *;rcases hkk with rfl|rfl|rfl
 ·go_enter Tryz.func41,Tryz.ntmps41
  go_upto_region 1 with fail
  change Code.wp _ _ _ _ (w.alloc (opO ⟨4,a,y,m,d,s⟩));generalize w.alloc (opO ⟨4,a,y,m,d,s⟩)=W at *
  go_wp2_with (first|(go_at_call 40;refine (e0X HW.out).mono ?_;rintro e w1 ⟨rfl,h1⟩;have H1:=a0b h1;clear h1))
  go_ret;exact⟨rfl,H1.out.more (Nat.le_add_right n 64)⟩
 ·go_enter Tryz.func41,Tryz.ntmps41
  go_upto_region 1 with fail
  change Code.wp _ _ _ _ (w.alloc (opO ⟨5,a,y,m,d,s⟩));generalize w.alloc (opO ⟨5,a,y,m,d,s⟩)=W at *
  go_wp2_with (first|(go_at_call 54;refine (e2q HW.out ha1 ha2 (hF (by decide)) hn).mono ?_;rintro e w1 ⟨rfl,h1⟩;have H1:=a0b h1;clear h1))
  go_ret;exact⟨rfl,H1.out⟩
 ·have hf:=hF (by decide);have PL:=a0b (e3U s _ HW.out.env)
  have key:Hid (∀ e,PR s e->∃ t er at_,e=.returned (.tuple #[.string t,.int .i64 er,.int .i64 at_])/\((er=0/\f9Y t)\/(er != 0)=true)):=fun e he=>by
   rcases he with ⟨_,rfl⟩|⟨_,⟨p,hp,rfl⟩|⟨m,_,rfl⟩⟩
   ·exact⟨_,_,_,rfl,.inr rfl⟩
   ·exact⟨_,_,_,rfl,.inl ⟨rfl,f5R hf hp⟩⟩
   ·exact⟨_,_,_,rfl,.inr rfl⟩
  have HF:=a0b hf;clear hF hf
  go_enter Tryz.func41,Tryz.ntmps41
  go_upto_region 1 with fail
  change Code.wp _ _ _ _ (w.alloc (opO ⟨6,a,y,m,d,s⟩));generalize w.alloc (opO ⟨6,a,y,m,d,s⟩)=W at *
  go_upto_region 14 with (first|(go_at_call 55;refine PL.out.mono ?_;rintro e w1 ⟨hp,hb⟩;obtain⟨t,er,at_,rfl,hc⟩:=key.out e hp;have H1:=a0b (HW.out.later hb);have C1:=a0b (CL.out _ hb);have HC:=a0b hc;clear hp hb hc c0 c1 c5))
  obtain⟨c0,c1,c5⟩:=C1.out;rcases HC.out with ⟨rfl,ht⟩|he
  ·have HT:=a0b ht;clear ht
   go_wp2_with (first|(go_at_call 54;refine (e2q H1.out ha1 ha2 HT.out hn).mono ?_;rintro e w2 ⟨rfl,h2⟩;have H2:=a0b h2;clear h2))
   go_ret;exact⟨rfl,H2.out⟩
  ·go_wp2_with (first|(go_at_call 54;refine (e2q H1.out ha1 ha2 HF.out hn).mono ?_;rintro e w2 ⟨rfl,h2⟩;have H2:=a0b h2;clear h2))
   go_ret;exact⟨rfl,H2.out⟩
theorem f4f(he:Env w){b0:Nat}{os:List OpX}(ho:w.ownsRow b0 89 6 v os.length (os.flatMap opC))(hf:∀ x∈os,f9X x)(hl:os.length<=2000000):
  Calls Tryz.prog 15 #[v,.int .i64 4,.int .i64 6] w fun e w'=>e=.returned (.bool true)/\Below w.heap.size w w':=by
 have HS:=a0b (LW.start he);obtain⟨va,vc,rfl⟩:=c9y ho
 have HO:Hid (∀ W m k (hk:k<os.length),LW w W w.heap.size m->∃ b,va=some ⟨b,0,none⟩/\g2D W b (k*6) os[k]):=fun W m k hk hW=>by
  have kW:=hW.bl;have at_:∀ o u,(opC os[k])[o]?=some u->∃ g cap,Value.slice va os.length vc=.slice (some ⟨g,0,none⟩) os.length cap/\w.cell? ⟨g,k*6+o,none⟩=some u:=fun o u hu=>e4k ho ((g4h hk o (by have:=(List.getElem?_eq_some_iff.1 hu).1;simpa[opC] using this)).trans hu)
  obtain⟨g,cap,e,c0⟩:=at_ 0 _ rfl;simp only[Value.slice.injEq,true_and] at e;obtain⟨rfl,rfl⟩:=e
  have at':∀ o u,(opC os[k])[o]?=some u->w.cell? ⟨g,k*6+o,none⟩=some u:=fun o u hu=>by
   obtain⟨g',cap',e,c⟩:=at_ o u hu;simp only[Value.slice.injEq,Option.some.injEq,Addr.mk.injEq,and_true,true_and] at e;obtain⟨rfl,rfl⟩:=e;exact c
  exact⟨g,rfl,g2D.later ⟨c0,at' 1 _ rfl,at' 2 _ rfl,at' 3 _ rfl,at' 4 _ rfl,at' 5 _ rfl⟩ kW⟩
 have HF:=a0b hf;clear ho hf he
 go_enter Tryz.func15,Tryz.ntmps15
 go_upto_region 2 with fail
 change Code.wp _ _ _ _ (w.alloc zW);generalize w.alloc zW=W at *
 go_wp2_with (first|(go_at_call 40;refine (e0X HS.out).mono ?_;rintro e w1 ⟨rfl,h1⟩;have H1:=a0b h1;clear h1))
 generalize w.heap.size=B at *
 go_loopw [9,10,11] (fun v _ _ wr=>∃ k:Nat,k<=os.length/\v=.int .i64 k/\LW w wr B (k*64)) (fun v _ _ _=>os.length-(intOf v).toNat)
 case atStart=>exact⟨0,Nat.zero_le _,rfl,by simpa using H1.out⟩
 case round =>
  obtain⟨k,hk,rfl,hlw⟩:=hrel;have HK:=a0b hlw
  by_cases hlt:k<os.length
  ·have hlt':(k:Int)<(os.length:Int):=by omega
   obtain⟨b,rfl,o0,o1,o2,o3,o4,o5⟩:=HO.out wr _ k hlt hlw;have hx:=HF.out os[k] (zg hlt);generalize os[k]=x at *;have HX:=a0b hx
   have h4:¬ x.k<4:=by
    rcases hx.2 with e|e
    ·omega
    ·have:=e.1;omega
   clear hx hlw
   by_cases h6:x.k<=6
   ·have h6':¬ 6<x.k:=by omega
    go_wp2_with (first
     |(go_at_call 41;refine (f7Y HK.out x HX.out h6 (by omega)).mono ?_;rintro e w2 ⟨rfl,h2⟩;have H2:=a0b h2;clear h2)
     |(go_at_call 42;refine (H2.out.looks (by omega)).mono ?_;rintro e w3 ⟨rfl,h3⟩;have H3:=a0b h3;clear h3))
    exact⟨⟨k+1,by omega,by go_num,by rw[Nat.add_mul,Nat.one_mul];exact H3.out⟩,by simp[intOf];omega⟩
   ·have h6':6<x.k:=by omega
    go_wp2_with fail
    exact⟨⟨k+1,by omega,by go_num,HK.out.more (by omega)⟩,by simp[intOf];omega⟩
  ·have hlt':¬ (k:Int)<(os.length:Int):=by omega
   clear hlw
   go_wp2_with fail
   go_ret;exact⟨rfl,HK.out.bl⟩
def e2N(w:World)(a0:Option Addr)(len:Nat):Prop:=∀ i,i<len->∃ b off x,a0=some ⟨b,off,none⟩/\g2D w b (off+i*6) x/\g4K x
theorem g3q:(Tryz.prog.info? 89).map (fun i=>(i.zero,i.size,i.bytes))=some (some (.agg #[.int .i64 0,.int .i64 0,.int .i64 0,.int .i64 0,.int .i64 0,.string ⟨#[]⟩]),6,56):=by kernel_rfl
def g3K(w:World)(len:Nat)(e:Ending)(w':World):Prop:=∃ (v:Value)(os:List OpX),e=.returned v/\w'.ownsRow w.heap.size 89 6 v os.length (os.flatMap opC)/\os.length<=len/\(∀ x∈os,f9X x)/\Below w.heap.size w w'
theorem e3G{v':Value}{os:List OpX}{x:OpX}(ho:w1.ownsRow w.heap.size 89 6 v os.length (os.flatMap opC))(hb:Below w.heap.size w w1)(k:Off v.ownBlock.toList w1 w2)(ho':w2.ownsRow w.heap.size 89 6 v' (os.length+1) (os.flatMap opC++opC x))(hof:∀ y∈os,f9X y)(hx:f9X x):
  w2.ownsRow w.heap.size 89 6 v' (os++[x]).length ((os++[x]).flatMap opC)/\(∀ y∈os++[x],f9X y)/\Below w.heap.size w w2:=by
 refine⟨by simpa using ho',fun y hy=>?_,hb.trans (Below.of_off k hb.size fun b hb'=>(ho.lt b (Option.mem_toList.1 hb')).1)⟩;rcases List.mem_append.1 hy with hy|hy
 ·exact hof y hy
 ·rw[List.mem_singleton.1 hy];exact hx
theorem f8e{len:Nat}(hs:e2N w a0 len)(hl:len<=1900000)(hw:d9x w g e7g):
  Calls Tryz.prog 16 #[.slice a0 len cap,.slice (some ⟨g,0,none⟩) 7 c] w (g3K w len):=by
 obtain⟨i0,hi0,hz0,hz1,hz2⟩:=info_parts g3q;have HS:=a0b hs;have HW:=a0b hw;clear hs hw
 go_enter Tryz.func16,Tryz.ntmps16
 go_wp2_with fail
 go_loopw [5,6,7] (fun v i _ wr=>∃ (k:Nat) (os:List OpX),k<=len/\i=.int .i64 k/\wr.ownsRow w.heap.size 89 6 v os.length (os.flatMap opC)/\os.length<=k/\(∀ x∈os,f9X x)/\Below w.heap.size w wr) (fun _ i _ _=>len-(intOf i).toNat)
 case atStart=>exact⟨0,[],Nat.zero_le _,rfl,World.ownsRow_nil _ _ _ _,by simp,by simp,Below.refl _ _⟩
 case round =>
  obtain⟨k,os,hk,rfl,ho,hol,hof,hbl⟩:=hrel;obtain⟨va,vc,rfl⟩:=c9y ho;have HO:=a0b (zA ho (zA hof hbl));clear ho hof hbl
  by_cases hlt:k<len
  ·have hlt':(k:Int)<(len:Int):=by omega
   obtain⟨b,off,x,rfl,hop,hok⟩:=HS.out k hlt;have HP:=a0b (zA hop hok);have WA:=a0b (fun W (kW:Below w.heap.size w W)=>e4v x.s W hok.sz (c:=c) (HW.out.later kW) (by decide));obtain⟨o0,o1,o2,o3,o4,o5⟩:=hop.later HO.out.2.2;clear hop hok
   go_upto_region 6 with (first|(go_at_call 43;refine (WA.out _ HO.out.2.2).mono ?_;rintro e w1 ⟨bb,rfl,hbb,hb1⟩;have H1:=a0b (zA hbb hb1);clear hbb hb1 o0 o1 o2 o3 o4 o5))
   have B1:=a0b (a0j HO.out.2.2 H1.out.2 (zq _));obtain⟨o0,o1,o2,o3,o4,o5⟩:=HP.out.1.later B1.out;have OW:=a0b (a1g HO.out.1 H1.out.2)
   by_cases h4:x.k=4
   ·have h4':(x.k==4)=true:=by simp[h4]
    have FX:Hid (f9X x):=⟨HP.out.2,.inl h4⟩;clear h4
    go_wp2_with (first|(at_builtin;go_loud (refine f0o rfl _ _ 22 rfl 6 56 Tryz.underlying22 hi0 hz0 hz1 hz2 (by decide) rfl (by decide) OW.out (cs:=#[.int .i64 x.k,.int .i64 x.a,.int .i64 x.y,.int .i64 x.m,.int .i64 x.d,.string x.s]) rfl (by simp[Value.oneCell']) rfl rfl (by omega) B1.out.size ?_);intro g2 c2 w2 o2 k2 _))
    obtain⟨m1,m2,m3⟩:=e3G OW.out B1.out k2 o2 HO.out.2.1 FX.out;exact⟨⟨k+1,os++[x],by omega,by go_num,m1,by simp;omega,m2,m3⟩,by simp[intOf];omega⟩
   ·have h4':(x.k==4)=false:=by simp[h4]
    by_cases h5:5<=x.k
    ·cases bb
     ·go_wp2_with fail
      exact⟨⟨k+1,os,by omega,by go_num,OW.out,by omega,HO.out.2.1,B1.out⟩,by simp[intOf];omega⟩
     ·have FX:Hid (f9X x):=⟨HP.out.2,.inr ⟨h5,H1.out.1 rfl⟩⟩
      go_wp2_with (first|(at_builtin;go_loud (refine f0o rfl _ _ 22 rfl 6 56 Tryz.underlying22 hi0 hz0 hz1 hz2 (by decide) rfl (by decide) OW.out (cs:=#[.int .i64 x.k,.int .i64 x.a,.int .i64 x.y,.int .i64 x.m,.int .i64 x.d,.string x.s]) rfl (by simp[Value.oneCell']) rfl rfl (by omega) B1.out.size ?_);intro g2 c2 w2 o2 k2 _))
      obtain⟨m1,m2,m3⟩:=e3G OW.out B1.out k2 o2 HO.out.2.1 FX.out;exact⟨⟨k+1,os++[x],by omega,by go_num,m1,by simp;omega,m2,m3⟩,by simp[intOf];omega⟩
    ·have h5':¬ (5:Int)<=x.k:=h5
     go_wp2_with fail
     exact⟨⟨k+1,os,by omega,by go_num,OW.out,by omega,HO.out.2.1,B1.out⟩,by simp[intOf];omega⟩
  ·have hlt':¬ (k:Int)<(len:Int):=by omega
   go_wp2_with fail
   go_ret;exact⟨_,os,rfl,HO.out.1,by omega,HO.out.2.1,HO.out.2.2⟩
theorem e5r{len:Nat}(he:Env w)(hs:e2N w a0 len)(hl:len<=1900000):
  Calls Tryz.prog 4 #[.slice a0 len cap] w fun e w'=>e=.returned (.bool true)/\Below w.heap.size w w':=by
 have HE:=a0b he;have HS:=a0b hs;clear he hs
 go_enter Tryz.func4,Tryz.ntmps4
 have kW:∀ o,Below w.heap.size w (w.alloc o):=fun o=>(zr _ _).alloc (zq _) o
 have SF:Hid (∀ (ty:TypeId) c,Calls Tryz.prog 16 #[.slice a0 len cap,.slice (some ⟨w.heap.size,0,none⟩) 7 c] (w.alloc (.cells #[.string a3F,.string a9P,.string a6m,.string a5Q,.string a9a,.string b5h,.string b1c] ty)) (g3K (w.alloc (.cells #[.string a3F,.string a9P,.string a6m,.string a5Q,.string a9a,.string b5h,.string b1c] ty)) len)):=fun ty c =>
  f8e (fun i hi=>by
   obtain⟨b,off,x,e,h1,h2⟩:=HS.out i hi
   exact⟨b,off,x,e,h1.later (kW _),h2⟩) hl (fun j hj=>by
   have hh:=a0p w (.cells #[.string a3F,.string a9P,.string a6m,.string a5Q,.string a9a,.string b5h,.string b1c] ty);have hj':j<7:=hj;rcases (show j=0\/j=1\/j=2\/j=3\/j=4\/j=5\/j=6 by omega) with rfl|rfl|rfl|rfl|rfl|rfl|rfl
   all_goals exact d0h hh _ rfl)
 have KW:=a0b kW;clear kW
 go_wp2_with fail
 refine (SF.out _ _).mono ?_;rintro e w1 ⟨v,os,rfl,ho,hol,hof,hb⟩;have H1:=a0b (zA ho (zA hof (zA hb ((HE.out.later (KW.out _)).later hb))));clear ho hof hb
 go_wp2_with fail
 refine (f4f H1.out.2.2.2 H1.out.1 H1.out.2.1 (by omega)).mono ?_;rintro e w2 ⟨rfl,hb2⟩;have H2:=a0b (a0j (a0j (KW.out _) H1.out.2.2.1 (zq _)) hb2 (zq _));clear hb2
 go_wp2_with fail
 go_ret;exact⟨rfl,H2.out⟩
end
end Go.Proofs.YtfigmlfdnickmaaGreatDoor
namespace Go.Proofs.YtfigmlfdnickmaaGreatDoor.uptoLaw
open Go.ChangeShapes Go.WideShapes Go.ChangeAt Go.RowKit
theorem f9G{H:Type}(d:DataW H):1<=Rows.uptoBulk d:=by
 cases d with
 |lit l=>cases l <;> simp[Rows.uptoBulk]
 |_=>simp[Rows.uptoBulk]
theorem f0k{H:Type}:∀ l:List (DataW H),l.length<=Rows.uptoBulkAll l
 |[]=>zN _
 |d :: r=>by
  have:=f0k r;have:=f9G d;simp only[Rows.uptoBulkAll,List.length_cons];omega
theorem f0h{H:Type}{d:DataW H}:∀ {l:List (DataW H)},d∈l->Rows.uptoBulk d<=Rows.uptoBulkAll l
 |a :: r,h=>by
  simp only[Rows.uptoBulkAll];rcases List.mem_cons.1 h with rfl|h
  ·omega
  ·have:=f0h h;omega
theorem g2Z{H:Type}{enc:TypeId × Value->H}{base:Nat}{n off:Nat}{cs:List Value}{x:DataW H × List MemPlace}(k:Nat)
  (hc:W.cells? base (Addr.add ⟨b,off,none⟩ (k*6)) 6=some cs) (h:DataW.trod enc Tryz.prog W base spare held n 89 cs=some x):∃ o:OpX,g2D W b (off+k*6) o/\-9223372036854775808<=o.a/\o.a<=9223372036854775807/\o.s.size<=Rows.uptoBulk x.1:=by
 obtain⟨xs,n',_,hx,hlen,hxl,hf⟩:=DataW.trod_struct Tryz.underlying89 h;rw[datesLaw.e7q] at hlen;obtain⟨c0,c1,c2,c3,c4,c5,rfl⟩:=datesLaw.six hlen;obtain⟨x0,x1,x2,x3,x4,x5,rfl⟩:=datesLaw.six (show xs.length=6 from hxl);have f0:=hf 0 _ rfl;have f1:=hf 1 _ rfl;have f2:=hf 2 _ rfl;have f3:=hf 3 _ rfl;have f4:=hf 4 _ rfl;have f5:=hf 5 _ rfl;simp only[List.getElem_toArray,List.getElem_cons_zero,List.getElem_cons_succ,datesLaw.c3D,datesLaw.b7n,List.drop,List.take,List.getElem?_cons_zero,List.getElem?_cons_succ] at f0 f1 f2 f3 f4 f5;obtain⟨i0,e0,_,_⟩:=DataW.trod_int Tryz.underlying3 f0;obtain⟨i1,e1,_,w1⟩:=DataW.trod_int Tryz.underlying3 f1;obtain⟨i2,e2,_,_⟩:=DataW.trod_int Tryz.underlying3 f2;obtain⟨i3,e3,_,_⟩:=DataW.trod_int Tryz.underlying3 f3;obtain⟨i4,e4,_,_⟩:=DataW.trod_int Tryz.underlying3 f4;obtain⟨i5,e5,d5,_⟩:=DataW.trod_string Tryz.underlying9 f5;simp only[List.cons.injEq,and_true] at e0 e1 e2 e3 e4 e5;subst e0 e1 e2 e3 e4 e5;obtain⟨_,_,hcs⟩:=World.cells?_some hc;have g0:=hcs 0 (by decide);have g1:=hcs 1 (by decide);have g2:=hcs 2 (by decide);have g3:=hcs 3 (by decide);have g4:=hcs 4 (by decide);have g5:=hcs 5 (by decide);have bd:=bounds_i64 w1;have ad:∀ j,Addr.add (Addr.add ⟨b,off,none⟩ (k*6)) j=⟨b,off+k*6+j,none⟩:=fun j=>by rw[Deep.add_add,Addr.add];simp[Nat.add_assoc]
 simp only[ad,List.getElem?_cons_zero,List.getElem?_cons_succ] at g0 g1 g2 g3 g4 g5;refine⟨⟨i0,i1,i2,i3,i4,i5⟩,⟨g0,g1,g2,g3,g4,g5⟩,bd.1,bd.2,?_⟩;have hz:=Txt.a1l i5;rw[hx,d5];simp only[List.map,Rows.uptoBulk,Rows.uptoBulkAll];omega
theorem script{H:Type}{enc:TypeId × Value->H}{base:Nat}{len0 cap0:Nat}{d:DataW H}{ps:List MemPlace}(h:DataW.Trod enc Tryz.prog W base spare held 22 (.slice a0 len0 cap0) d ps)(hb:Rows.uptoBulk d<=1048576):e2N W a0 len0/\len0<=1900000:=by
 obtain⟨fuel,hf⟩:=h;rcases Deep.open_slice Tryz.underlying22 hf with ⟨hcs,_⟩|⟨a,l,c,m,n,D,Pl,hcs,_,hl,hm,hmd,hx,hel⟩
 ·simp[Value.cells] at hcs;obtain⟨rfl,rfl,rfl⟩:=hcs;exact⟨fun i hi=>by omega,by omega⟩
 ·simp[Value.cells] at hcs;obtain⟨rfl,rfl,rfl⟩:=hcs;have hd:d=.slice ((List.range len0).map D) ((List.range (m-len0)).map fun j=>D (len0+j)):=congrArg Prod.fst hx;rw[hd] at hb;simp only[Rows.uptoBulk] at hb;have h1:=f0k ((List.range len0).map D);rw[List.length_map,List.length_range] at h1;refine⟨fun i hi=>?_,by omega⟩;have hlm:len0<=m:=by rw[hmd];split <;> omega
  obtain⟨b,off,spot⟩:=a;obtain⟨cs,hc,ht⟩:=hel i (by omega)
  have hspot:spot=none:=by
   obtain⟨cs,hc,_⟩:=hel 0 (by omega);obtain⟨_,hn,hcc⟩:=World.cells?_some hc;rw[datesLaw.e7q] at hn hcc;obtain⟨c0,c1,c2,c3,c4,c5,rfl⟩:=datesLaw.six hn;have g:=hcc 0 (by decide)
   simpa[Addr.add] using World.cell?_spot g
  subst hspot;rw[datesLaw.e7q] at hc;obtain⟨o,o1,o2,o3,o4⟩:=g2Z i hc ht;have h2:=f0h (d:=D i) (l:=(List.range len0).map D) (List.mem_map.2 ⟨i,List.mem_range.2 hi,rfl⟩);exact⟨b,off,o,rfl,o1,o2,o3,by simp only at o4;omega⟩
end Go.Proofs.YtfigmlfdnickmaaGreatDoor.uptoLaw
