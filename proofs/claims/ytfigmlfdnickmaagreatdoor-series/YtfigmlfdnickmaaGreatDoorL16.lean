import Derived.Test.YtfigmlfdnickmaaGreatDoorL15
import Derived.Maps.AppendAt
import Derived.Deep.AppendLies
import Derived.Lib.SmallJoins
import Derived.Lib.SliceRun
set_option maxRecDepth 100000
set_option maxHeartbeats 8000000
variable{la mo x:Int}{p:Int->Bool}{l:List Int}{xs:List Go.Value}{B Bn Q b d e k n n₀:Nat}{col:Nat->Option Go.Proofs.YtfigmlfdnickmaaGreatDoor.Col}{rw_:Go.Proofs.YtfigmlfdnickmaaGreatDoor.Raw}{s:Go.Proofs.YtfigmlfdnickmaaGreatDoor.Desk.St}{v:Go.Value}{W w:Go.World}
namespace Go.Proofs.YtfigmlfdnickmaaGreatDoor
open Go.RowKit Go.Shelf
attribute [local go_sem] Oper.semAt_some
structure FD(w W:World)(r:Rd.a0Y)(la mo:Int)(pre:List Int):Prop where
 l:Boxed W (w.heap.size+1) 3 (.int .i64 la)
 m:Boxed W (w.heap.size+2) 3 (.int .i64 mo)
 d:∃ v,Boxed W (w.heap.size+3) 38 v/\W.ownsRow (w.heap.size+6) 3 1 v pre.length (pre.map (Value.int .i64))
 ru:W.heap[w.heap.size+5]?=some (a0u r)
 bl:Below w.heap.size w W
 sz:w.heap.size+6<=W.heap.size
 le:∀ x∈pre,x<=la
 ml:(pre.length:Int)<=mo
theorem a6Z{W':World}{row:Option Nat}{t:TypeId}(h:Boxed W B t v)(hg:W.grownBy W' row)(hr:∀ r,row=some r->∃ o:Obj,W.heap[r]?=some o/\o.isCells=false):Boxed W' B t v :=
 h.kept hg (fun e=>by
  obtain⟨o,ho,hc⟩:=hr B e.symm
  rw[show W.heap[B]?=_ from h] at ho;cases ho;cases hc)
theorem b6Y(w:World)(r:Rd.a0Y)(la mo:Int)(hB:w.heap.size<=B):OwnFrom B (fun pre W=>FD w W r la mo pre):=by
 intro pre W W' row h hg hrow;have hr:∀ r,row=some r->∃ o:Obj,W.heap[r]?=some o/\o.isCells=false:=fun r e=>(hrow r e).2
 obtain⟨v,hv,ho⟩:=h.d;refine⟨a6Z h.l hg hr,a6Z h.m hg hr,⟨v,a6Z hv hg hr,ho.kept hg ?_⟩,(hg.block _ (by have:=h.sz;omega) (fun e=>?_)).trans h.ru,h.bl.grown hg h.bl.size (fun k e=>Nat.le_trans hB (hrow k e).1),Nat.le_trans h.sz hg.size,h.le,h.ml⟩
 ·rcases ho.2 with ⟨rfl,_⟩|⟨g,cap,cur,rfl,_,hgb,_⟩
  ·exact .inl rfl
  ·refine .inr fun e'=>?_
   obtain⟨o,ho,hc⟩:=hr g (by simpa[Value.ownBlock] using e'.symm);rw[hgb] at ho;cases ho;cases hc
 ·obtain⟨o,ho,hc⟩:=hr _ e.symm;rw[h.ru] at ho;cases ho;cases hc
theorem c0Q{w1:World}{r:Rd.a0Y}{pre:List Int}(h:FD w W r la mo pre)(hv:Boxed W (w.heap.size+3) 38 v)(ho:W.ownsRow (w.heap.size+6) 3 1 v pre.length (pre.map (Value.int .i64))){tmp:Obj}{v':Value}(hown:w1.ownsRow (w.heap.size+6) 3 1 v' (pre.length+1) (pre.map (Value.int .i64)++[.int .i64 x]))(hg:(W.alloc tmp).grownBy w1 v.ownBlock)(hx:x<=la)(hm:(pre.length:Int)+1<=mo):
  Boxed w1 (w.heap.size+3) 38 v/\KeepsFrom (w.heap.size+6) W (w1.setCell ⟨w.heap.size+3,0,none⟩ v')/\RK w.heap.size (w.heap.size+5) W (w1.setCell ⟨w.heap.size+3,0,none⟩ v')/\FD w (w1.setCell ⟨w.heap.size+3,0,none⟩ v') r la mo (pre++[x]):=by
 have hs:=h.sz;have ob:∀ b,v.ownBlock=some b->w.heap.size+6<=b:=fun b hb=>(ho.lt b hb).1
 have ob':∀ b,v'.ownBlock=some b->w.heap.size+6<=b:=fun b hb=>(hown.lt b hb).1
 have k1:∀ b,b<w.heap.size+6->w1.heap[b]?=W.heap[b]?:=fun b hb =>
  (hg.block b (by simp;omega) (fun e=>by have:=ob b e.symm;omega)).trans (Below.heap_alloc W tmp b (by omega))
 have k2:∀ b,b≠w.heap.size+3->(w1.setCell ⟨w.heap.size+3,0,none⟩ v').heap[b]?=w1.heap[b]?:=fun b hb=>Below.heap_setCell _ _ _ b hb
 have hv1:Boxed w1 (w.heap.size+3) 38 v:=(k1 _ (by omega)).trans hv;have sz1:W.heap.size<=w1.heap.size:=by have:=hg.size;simp at this;omega
 have bW:Below w.heap.size W (w1.setCell ⟨w.heap.size+3,0,none⟩ v'):=(((zr _ W).alloc (by omega) tmp).grown hg (by simp;omega) (fun j e=>by have:=ob j e;omega)).setCell (p:=⟨w.heap.size+3,0,none⟩) (by show w.heap.size<=w.heap.size+3;omega) v';refine⟨hv1,?_,⟨bW,(k2 _ (by omega)).trans (k1 _ (by omega))⟩,⟨((k2 _ (by omega)).trans (k1 _ (by omega))).trans h.l,((k2 _ (by omega)).trans (k1 _ (by omega))).trans h.m,⟨v',hv1.set v',?_⟩,((k2 _ (by omega)).trans (k1 _ (by omega))).trans h.ru,h.bl.trans bW,?_,?_,?_⟩⟩
 ·refine (((KeepsOthers.alloc W tmp).trans (KeepsOthers.of_grownBy hg fun j o ej hj=>?_)).trans (KeepsOthers.setCell _ _ _)).from _
  rcases (ho.alloc tmp).2 with ⟨rfl,_⟩|⟨g,cap,cur,rfl,_,hgb,_⟩
  ·simp[Value.ownBlock] at ej
  ·obtain rfl:g=j:=by simpa[Value.ownBlock] using ej
   rw[hgb] at hj;cases hj;rfl
 ·have:=hown.kept (grownBy_setCell' w1 (w.heap.size+3) v') (.inr (fun e=>by have:=ob' _ e;omega))
  simpa using this
 ·have:=(grownBy_setCell' w1 (w.heap.size+3) v').size;omega
 ·intro y hy;rcases List.mem_append.1 hy with hy|hy
  ·exact h.le y hy
  ·simp at hy;omega
 ·simp;omega
structure FD0(w Y:World)(r:Rd.a0Y)(la mo:Int):Prop where
 ru:Y.heap[w.heap.size]?=some (a0u r)
 l:Boxed Y (w.heap.size+1) 3 (.int .i64 la)
 m:Boxed Y (w.heap.size+2) 3 (.int .i64 mo)
 d:Boxed Y (w.heap.size+3) 38 (.slice none 0 0)
 bl:Below w.heap.size w Y
 sz:Y.heap.size=w.heap.size+4
theorem fd0(w:World)(r:Rd.a0Y)(la mo:Int):FD0 w ((((w.alloc (a0u r)).alloc (.cells #[.int .i64 la] 3)).alloc (.cells #[.int .i64 mo] 3)).alloc (.cells #[.slice none 0 0] 38)) r la mo:=by
 have b0:=World.alloc_heap_new w (a0u r);have b1:=Boxed.new (w.alloc (a0u r)) 3 (.int .i64 la);have b2:=Boxed.new ((w.alloc (a0u r)).alloc (.cells #[.int .i64 la] 3)) 3 (.int .i64 mo);have b3:=Boxed.new (((w.alloc (a0u r)).alloc (.cells #[.int .i64 la] 3)).alloc (.cells #[.int .i64 mo] 3)) 38 (.slice none 0 0);simp only[World.size_alloc] at b1 b2 b3;have k:∀ (W:World) (o:Obj) (b:Nat) (x:Obj),W.heap[b]?=some x->(W.alloc o).heap[b]?=some x:=fun W o b x h=>(Below.heap_alloc W o b (Array.getElem?_eq_some_iff.1 h).1).trans h
 exact⟨k _ _ _ _ (k _ _ _ _ (k _ _ _ _ b0)),(b1.alloc _).alloc _,b2.alloc _,b3,((((zr _ w).alloc (zq _) _).alloc (by simp) _).alloc (by simp;omega) _).alloc (by simp;omega) _,by simp⟩
theorem c7x(w:World)(r:Rd.a0Y)(la mo:Int):FD0 w (((((w.alloc (a0u r)).alloc (.cells #[.int .i64 la] 3)).alloc (.cells #[.int .i64 mo] 3)).drew).alloc (.cells #[.slice none 0 0] 38)) r la mo:=by
 obtain⟨h1,h2,h3,h4,h5,h6⟩:=fd0 w r la mo;exact⟨h1,h2,h3,h4,h5.drew,h6⟩
theorem b6X{Y:World}{r:Rd.a0Y}(hl:Boxed Y (w.heap.size+1) 3 (.int .i64 la))(hm:Boxed Y (w.heap.size+2) 3 (.int .i64 mo))(hd:Boxed Y (w.heap.size+3) 38 (.slice none 0 0))(hb:Below w.heap.size w Y)(hs:Y.heap.size=w.heap.size+4)(h0:0<=mo):FD w ((Y.alloc (a0u r)).alloc (a0u r)) r la mo []:=by
 have b:=World.alloc_heap_new (Y.alloc (a0u r)) (a0u r);rw[World.size_alloc,hs] at b;exact⟨(hl.alloc _).alloc _,(hm.alloc _).alloc _,⟨_,(hd.alloc _).alloc _,World.ownsRow_nil _ _ _ _⟩,b,(hb.alloc (by omega) _).alloc (by simp;omega) _,by simp;omega,by simp,by simpa using h0⟩
theorem RK.trans{A B C:World}(h:RK n₀ Bn A B)(k:RK n₀ Bn B C):RK n₀ Bn A C:=⟨h.1.trans k.1,k.2.trans h.2⟩
theorem RK.put(hn:n₀<=w.heap.size)(hB:Bn<w.heap.size)(W:World)(l:Nat)(o o':Obj)(hl:w.heap.size<=l)(h:W.heap[l]?=some o)(h1:o.isCells=false)(h2:o.isWalk=false):RK n₀ Bn W (W.putObj l o') :=
 ⟨belowK_b hn W l o o' hl h h1 h2,(grownBy_putObj' W l o').block Bn (by have:=(Array.getElem?_eq_some_iff.1 h).1;omega) (fun e=>by cases e;omega)⟩
theorem b3n(r:Rd.a0Y)(args:Array Value)(w:World):(callFunc (itF r) args).run Tryz.prog w=.ok (.enter (itF r) args) w:=by
 unfold itF
 split
 ·exact enters_of Tryz.func292 (by kernel_rfl) rfl args w
 ·split
  ·exact enters_of Tryz.func293 (by kernel_rfl) rfl args w
  ·exact enters_of Tryz.func296 (by kernel_rfl) rfl args w
theorem b1C{size:Nat}(h:w.ownsRow B e size v n xs):∃ a cap,v=.slice a n cap:=by
 rcases h.2 with ⟨rfl,h0⟩|⟨g,cap,_,rfl,_⟩
 ·rw[h0];exact⟨_,_,rfl⟩
 ·exact⟨_,_,rfl⟩
theorem a9c{C size:Nat}(h:w.ownsRow B e size v n xs)(hc:C<=B):w.ownsRow C e size v n xs :=
 ⟨h.1,h.2.imp id (fun ⟨g,cap,cur,h1,h2,h3⟩=>⟨g,cap,cur,h1,Nat.le_trans hc h2,h3⟩)⟩
theorem a5t(h:∀ x∈l,p x=true)(hk:l.length<=k):(l.takeWhile p).take k=l:=by
 have e:l.takeWhile p=l:=by
  induction l with
  |nil=>rfl
  |cons a l ih=>rw[List.takeWhile_cons,h a (by simp),if_pos rfl,ih (fun x hx=>h x (by simp[hx])) (by simp at hk;omega)]
 rw[e,List.take_of_length_le hk]
theorem b2D{pre rest:List Int}(h:∀ y∈pre,p y=true)(hk:pre.length<=k)(hx:p x=false\/pre.length=k):((pre++x :: rest).takeWhile p).take k=pre:=by
 have e:(pre++x :: rest).takeWhile p=pre++(x :: rest).takeWhile p:=List.takeWhile_append_of_pos h;rw[e];rcases hx with hx|hx
 ·rw[List.takeWhile_cons,hx];simp[List.take_of_length_le hk]
 ·rw[<- hx,List.take_left]
def laO(r:Rd.a0Y):Int:=if 0<r.ti then 727 else r.un
def moO(r:Rd.a0Y):Int:=if 0<r.ti then r.ti else 41
theorem a3N(r:Rd.a0Y):Rd.a0t r=((Rd.seq r).takeWhile (fun d=>decide (d<=laO r))).take (moO r).toNat:=by
 unfold Rd.a0t laO moO
 split
 ·rfl
 ·rfl
theorem b2a(r:Rd.a0Y)(hf:Rd.a6s r)(w:World)(ht:Tab w)(h10:10<=w.heap.size):
  Calls Tryz.prog 199 #[a1S r] w fun e w'=>∃ v,e=.returned v/\w'.ownsRow w.heap.size 3 1 v (Rd.a0t r).length ((Rd.a0t r).map (Value.int .i64))/\Below w.heap.size w w':=by
 obtain⟨i0,hi0,hz0,hz1,hz2⟩:=info_parts b1S;have t1:=hf.t1;refine (callsIn_wide (n:=3)).1 ?_;unfold a1S;refine callsIn_of_wp_marks Tryz.func199 rfl trivial ?_ rfl;simp only[Tryz.ntmps199,List.size_toArray,List.length_cons,List.length_nil,Nat.reduceAdd,Nat.reduceSub,Array.replicate_succ,Array.replicate_zero,List.push_toArray,List.append_toArray,List.nil_append,List.cons_append];refine wpIn_wide.2 ?_
 by_cases hti:0<r.ti
 ·have elm:laO r=727/\moO r=r.ti:=by unfold laO moO;rw[if_pos hti,if_pos hti];exact⟨rfl,rfl⟩
  have HY:Hid (FD0 w (((((w.alloc (a0u r)).alloc (.cells #[.int .i64 727] 3)).alloc (.cells #[.int .i64 r.ti] 3)).drew).alloc (.cells #[.slice none 0 0] 38)) r 727 r.ti):=c7x w r 727 r.ti;have EL:=a0b elm;clear elm
  go_upto_region 4 with fail
  go_region
  go_upto_region 5 with fail
  change Code.wp _ _ _ _ (((((w.alloc (a0u r)).alloc (.cells #[.int .i64 727] 3)).alloc (.cells #[.int .i64 r.ti] 3)).drew).alloc (.cells #[.slice none 0 0] 38));generalize ((((w.alloc (a0u r)).alloc (.cells #[.int .i64 727] 3)).alloc (.cells #[.int .i64 r.ti] 3)).drew).alloc (.cells #[.slice none 0 0] 38)=Y at HY ⊢;obtain⟨hYr,hYl,hYm,hYd,hYb,hYs⟩:=HY.out;have EN:=a0b (a9C r Y);have HZ:=a0b (b6X (r:=r) hYl hYm hYd hYb hYs);have TZ:Hid (Tab ((Y.alloc (a0u r)).alloc (a0u r))):=a3c ht (HZ.out (by omega)).bl h10;rw[hYs] at EN;unfold a1S at EN;have x0:=a7u hYr;have x1:=a3R hYr;have x2:=a7t hYr;have x3:=a7s hYr;have x4:=a7r hYr;have x5:=a7q hYr;have x6:=a7p hYr;have x7:=a7o hYr;have x8:=a7n hYr;have x9:=a4m hYr;have x10:=a6E hYr;have x11:=a6D hYr;have x12:=a6C hYr;have x13:=a6B hYr;clear hYr hYl hYm hYd hYb HY
  go_wp2_with (first
   |(go_at_call 249;refine EN.out.mono ?_;rintro e w1 ⟨rfl,rfl⟩))
  clear EN x0 x1 x2 x3 x4 x5 x6 x7 x8 x9 x10 x11 x12 x13;have hZs:((Y.alloc (a0u r)).alloc (a0u r)).heap.size=w.heap.size+6:=by simp[hYs]
  generalize (Y.alloc (a0u r)).alloc (a0u r)=Z at HZ TZ hZs ⊢;have hF:=HZ.out (by omega);have HS:=a0b (b6P 2 (by omega) (w.heap.size+5) w.heap.size h10 r hf Z (by omega) (by omega) TZ.out hF.ru);refine (wpIn_wide (n:=3)).1 ?_
  refine wpIn_rangeFunc_ownG rfl (by omega) (gf:=itF r) (lb:=#[.pointer (some ⟨w.heap.size+5,0,none⟩)]) rfl trivial (b3n r) HS.out (fun h k=>RK.trans h k) (RK.put (by omega) (by omega)) (zr _ _) (fun _=>rfl)
   (fun pre W=>FD w W r 727 r.ti pre) (fun c pre' W=>c=.exit 0/\∃ pre x,pre'=pre++[x]/\FD w W r 727 r.ti pre/\(727<x\/(pre.length:Int)=r.ti))
   (b6Y w r 727 r.ti (by omega)) (fun c s A B row hs hg hr=>by obtain⟨e,pre,x,e2,h,h3⟩:=hs;exact⟨e,pre,x,e2,b6Y w r 727 r.ti (by omega) pre A B row h hg hr,h3⟩) hF
   (fun x=>{ tmps:=#[.agg #[.int .i64 r.pc,.int .i64 r.ev,.bool (isd r.acc 0),.bool (isd r.acc 1),.bool (isd r.acc 2),.bool (isd r.acc 3),.bool (isd r.acc 4),.bool (isd r.acc 5),.bool (isd r.acc 6),.int .i64 r.fr,.int .i64 r.mn,.int .i64 r.mi,.int .i64 r.ti,.int .i64 r.un],.pointer (some ⟨w.heap.size,0,none⟩),.slice none 0 0,.pointer (some ⟨w.heap.size+1,0,none⟩),.pointer (some ⟨w.heap.size+1+1,0,none⟩),.pointer (some ⟨w.heap.size+1+1+1,0,none⟩),.int .i64 x,.pointer (some ⟨w.heap.size,13,none⟩),.int .i64 r.un,.pointer (some ⟨w.heap.size,12,none⟩),.int .i64 r.ti,.bool true,.pointer (some ⟨w.heap.size,12,none⟩),.int .i64 r.ti,.agg #[.int .i64 r.pc,.int .i64 r.ev,.bool (isd r.acc 0),.bool (isd r.acc 1),.bool (isd r.acc 2),.bool (isd r.acc 3),.bool (isd r.acc 4),.bool (isd r.acc 5),.bool (isd r.acc 6),.int .i64 r.fr,.int .i64 r.mn,.int .i64 r.mi,.int .i64 r.ti,.int .i64 r.un],.func (.func (itF r)) #[] #[.pointer (some ⟨w.heap.size+5,0,none⟩)],.int .i64 x,undef,undef,undef,undef,undef,undef,undef,undef,undef,undef,undef,undef,undef,undef],defers:=[] }) ?assign ?body ?done ?stop
  case assign =>
   intro l x W K hK
   gi_wp2
   exact hK
  case body =>
   rintro l pre x W h hlt;obtain⟨v,hv,hrow⟩:=h.d;have hcl:=h.l.cell;have hcm:=h.m.cell;have hcd:=hv.cell;have hml:=h.ml;have HI:=a0b h;obtain⟨a0,cap0,rfl⟩:=b1C hrow;have hsz:w.heap.size+6<=W.heap.size:=h.sz
   by_cases c1:727<x
   ·clear h hrow hv
    gi_wp2
    exact⟨KeepsFrom.refl _ _,rfl,pre,x,rfl,HI.out,.inl c1⟩
   ·by_cases c2:(pre.length:Int)=r.ti
    ·have c2b:((pre.length:Int)==r.ti)=true:=by simpa using c2
     have C2:=a0b c2;clear h hrow hv c2
     gi_wp2
     exact⟨KeepsFrom.refl _ _,rfl,pre,x,rfl,HI.out,.inr C2.out⟩
    ·have c2b:((pre.length:Int)==r.ti)=false:=by simpa using c2
     clear h
     gi_wp2_with (first
      |(gi_at_builtin;refine wpListIn_append_own _ rfl _ _ 38 rfl (w.heap.size+6) 3 i0 (.int .i64 0) 1 8 Tryz.underlying38 hi0 hz0 hz1 hz2 rfl (by decide) _ _ _ rfl (hrow.alloc _) ⟨W.heap.size,0,none⟩ 1 1 [.int .i64 x] rfl rfl (cell_one_new _ _ _) (by simp[Value.oneCell']) (by unfold maxLen;omega) (by omega) (by simp;omega) ?_;intro v' w1 hown' hgrow _;obtain⟨g',cap',rfl⟩:=ownsRow_succ hown';obtain⟨hv1,hk2,hrk,hfd⟩:=c0Q HI.out hv hrow hown' hgrow (by omega) (by omega);have hc1:=hv1.cell;have hf1:=hv1.frozen))
     exact⟨hk2,hrk,hfd⟩
  case done =>
   rintro D ys W hD rfl h hK
   have ED:Hid (Rd.a0t r=Rd.seq r):=by
    show Rd.a0t r=Rd.seq r;have h0:=h.ml;rw[a3N,EL.out.1,EL.out.2];exact a5t (fun y hy=>by simpa using h.le y hy) (by omega)
   obtain⟨v,hv,hrow⟩:=h.d;have hc:=hv.cell;have hb:=h.bl;obtain⟨a0,cap0,rfl⟩:=b1C hrow;clear h
   go_wp2_with fail
   refine⟨by simp,.inl ⟨_,_,rfl,run_takeDeferred hK,?_⟩⟩;refine⟨_,results_tmp rfl _ _ _,_,rfl,?_,hb.trans (belowK_b (w:=w) (zq _) W D _ _ (by omega) hK rfl rfl)⟩;rw[ED.out];exact ownsRow_putObj (a9c hrow (by omega)) _ hK rfl
  case stop =>
   rintro D c pre' W hD hSp ⟨rfl,pre,x,rfl,h,hx⟩ hK
   have ED:Hid (Rd.a0t r=pre):=by
    obtain⟨rest,hrest⟩:=hSp;show Rd.a0t r=pre;have h0:=h.ml;rw[a3N,EL.out.1,EL.out.2,<- hrest,List.append_assoc];exact b2D (fun y hy=>by simpa using h.le y hy) (by omega) (hx.imp (fun e=>by simpa using e) (fun e=>by omega))
   obtain⟨v,hv,hrow⟩:=h.d;have hc:=hv.cell;have hb:=h.bl;obtain⟨a0,cap0,rfl⟩:=b1C hrow;clear h;refine wpIn_wide.2 ?_
   go_wp2_with fail
   refine⟨by simp,.inl ⟨_,_,rfl,run_takeDeferred hK,?_⟩⟩;refine⟨_,results_tmp rfl _ _ _,_,rfl,?_,hb.trans (belowK_b (w:=w) (zq _) W D _ _ (by omega) hK rfl rfl)⟩;rw[ED.out];exact ownsRow_putObj (a9c hrow (by omega)) _ hK rfl
 ·have elm:laO r=r.un/\moO r=41:=by unfold laO moO;rw[if_neg hti,if_neg hti];exact⟨rfl,rfl⟩
  have HY:Hid (FD0 w ((((w.alloc (a0u r)).alloc (.cells #[.int .i64 r.un] 3)).alloc (.cells #[.int .i64 41] 3)).alloc (.cells #[.slice none 0 0] 38)) r r.un 41):=fd0 w r r.un 41;have EL:=a0b elm;clear elm
  go_upto_region 5 with fail
  change Code.wp _ _ _ _ ((((w.alloc (a0u r)).alloc (.cells #[.int .i64 r.un] 3)).alloc (.cells #[.int .i64 41] 3)).alloc (.cells #[.slice none 0 0] 38));generalize (((w.alloc (a0u r)).alloc (.cells #[.int .i64 r.un] 3)).alloc (.cells #[.int .i64 41] 3)).alloc (.cells #[.slice none 0 0] 38)=Y at HY ⊢;obtain⟨hYr,hYl,hYm,hYd,hYb,hYs⟩:=HY.out;have EN:=a0b (a9C r Y);have HZ:=a0b (b6X (r:=r) hYl hYm hYd hYb hYs);have TZ:Hid (Tab ((Y.alloc (a0u r)).alloc (a0u r))):=a3c ht (HZ.out (by omega)).bl h10;rw[hYs] at EN;unfold a1S at EN;have x0:=a7u hYr;have x1:=a3R hYr;have x2:=a7t hYr;have x3:=a7s hYr;have x4:=a7r hYr;have x5:=a7q hYr;have x6:=a7p hYr;have x7:=a7o hYr;have x8:=a7n hYr;have x9:=a4m hYr;have x10:=a6E hYr;have x11:=a6D hYr;have x12:=a6C hYr;have x13:=a6B hYr;clear hYr hYl hYm hYd hYb HY
  go_wp2_with (first
   |(go_at_call 249;refine EN.out.mono ?_;rintro e w1 ⟨rfl,rfl⟩))
  clear EN x0 x1 x2 x3 x4 x5 x6 x7 x8 x9 x10 x11 x12 x13;have hZs:((Y.alloc (a0u r)).alloc (a0u r)).heap.size=w.heap.size+6:=by simp[hYs]
  generalize (Y.alloc (a0u r)).alloc (a0u r)=Z at HZ TZ hZs ⊢;have hF:=HZ.out (by omega);have HS:=a0b (b6P 2 (by omega) (w.heap.size+5) w.heap.size h10 r hf Z (by omega) (by omega) TZ.out hF.ru);refine (wpIn_wide (n:=3)).1 ?_
  refine wpIn_rangeFunc_ownG rfl (by omega) (gf:=itF r) (lb:=#[.pointer (some ⟨w.heap.size+5,0,none⟩)]) rfl trivial (b3n r) HS.out (fun h k=>RK.trans h k) (RK.put (by omega) (by omega)) (zr _ _) (fun _=>rfl)
   (fun pre W=>FD w W r r.un 41 pre) (fun c pre' W=>c=.exit 0/\∃ pre x,pre'=pre++[x]/\FD w W r r.un 41 pre/\(r.un<x\/(pre.length:Int)=41))
   (b6Y w r r.un 41 (by omega)) (fun c s A B row hs hg hr=>by obtain⟨e,pre,x,e2,h,h3⟩:=hs;exact⟨e,pre,x,e2,b6Y w r r.un 41 (by omega) pre A B row h hg hr,h3⟩) hF
   (fun x=>{ tmps:=#[.agg #[.int .i64 r.pc,.int .i64 r.ev,.bool (isd r.acc 0),.bool (isd r.acc 1),.bool (isd r.acc 2),.bool (isd r.acc 3),.bool (isd r.acc 4),.bool (isd r.acc 5),.bool (isd r.acc 6),.int .i64 r.fr,.int .i64 r.mn,.int .i64 r.mi,.int .i64 r.ti,.int .i64 r.un],.pointer (some ⟨w.heap.size,0,none⟩),.slice none 0 0,.pointer (some ⟨w.heap.size+1,0,none⟩),.pointer (some ⟨w.heap.size+1+1,0,none⟩),.pointer (some ⟨w.heap.size+1+1+1,0,none⟩),.int .i64 x,.pointer (some ⟨w.heap.size,13,none⟩),.int .i64 r.un,.pointer (some ⟨w.heap.size,12,none⟩),.int .i64 r.ti,.bool false,undef,undef,.agg #[.int .i64 r.pc,.int .i64 r.ev,.bool (isd r.acc 0),.bool (isd r.acc 1),.bool (isd r.acc 2),.bool (isd r.acc 3),.bool (isd r.acc 4),.bool (isd r.acc 5),.bool (isd r.acc 6),.int .i64 r.fr,.int .i64 r.mn,.int .i64 r.mi,.int .i64 r.ti,.int .i64 r.un],.func (.func (itF r)) #[] #[.pointer (some ⟨w.heap.size+5,0,none⟩)],.int .i64 x,undef,undef,undef,undef,undef,undef,undef,undef,undef,undef,undef,undef,undef,undef],defers:=[] }) ?assign ?body ?done ?stop
  case assign =>
   intro l x W K hK
   gi_wp2
   exact hK
  case body =>
   rintro l pre x W h hlt;obtain⟨v,hv,hrow⟩:=h.d;have hcl:=h.l.cell;have hcm:=h.m.cell;have hcd:=hv.cell;have hml:=h.ml;have HI:=a0b h;obtain⟨a0,cap0,rfl⟩:=b1C hrow;have hsz:w.heap.size+6<=W.heap.size:=h.sz
   by_cases c1:r.un<x
   ·clear h hrow hv
    gi_wp2
    exact⟨KeepsFrom.refl _ _,rfl,pre,x,rfl,HI.out,.inl c1⟩
   ·by_cases c2:(pre.length:Int)=41
    ·have c2b:((pre.length:Int)==41)=true:=by simpa using c2
     have C2:=a0b c2;clear h hrow hv c2
     gi_wp2
     exact⟨KeepsFrom.refl _ _,rfl,pre,x,rfl,HI.out,.inr C2.out⟩
    ·have c2b:((pre.length:Int)==41)=false:=by simpa using c2
     clear h
     gi_wp2_with (first
      |(gi_at_builtin;refine wpListIn_append_own _ rfl _ _ 38 rfl (w.heap.size+6) 3 i0 (.int .i64 0) 1 8 Tryz.underlying38 hi0 hz0 hz1 hz2 rfl (by decide) _ _ _ rfl (hrow.alloc _) ⟨W.heap.size,0,none⟩ 1 1 [.int .i64 x] rfl rfl (cell_one_new _ _ _) (by simp[Value.oneCell']) (by unfold maxLen;omega) (by omega) (by simp;omega) ?_;intro v' w1 hown' hgrow _;obtain⟨g',cap',rfl⟩:=ownsRow_succ hown';obtain⟨hv1,hk2,hrk,hfd⟩:=c0Q HI.out hv hrow hown' hgrow (by omega) (by omega);have hc1:=hv1.cell;have hf1:=hv1.frozen))
     exact⟨hk2,hrk,hfd⟩
  case done =>
   rintro D ys W hD rfl h hK
   have ED:Hid (Rd.a0t r=Rd.seq r):=by
    show Rd.a0t r=Rd.seq r;have h0:=h.ml;rw[a3N,EL.out.1,EL.out.2];exact a5t (fun y hy=>by simpa using h.le y hy) (by omega)
   obtain⟨v,hv,hrow⟩:=h.d;have hc:=hv.cell;have hb:=h.bl;obtain⟨a0,cap0,rfl⟩:=b1C hrow;clear h
   go_wp2_with fail
   refine⟨by simp,.inl ⟨_,_,rfl,run_takeDeferred hK,?_⟩⟩;refine⟨_,results_tmp rfl _ _ _,_,rfl,?_,hb.trans (belowK_b (w:=w) (zq _) W D _ _ (by omega) hK rfl rfl)⟩;rw[ED.out];exact ownsRow_putObj (a9c hrow (by omega)) _ hK rfl
  case stop =>
   rintro D c pre' W hD hSp ⟨rfl,pre,x,rfl,h,hx⟩ hK
   have ED:Hid (Rd.a0t r=pre):=by
    obtain⟨rest,hrest⟩:=hSp;show Rd.a0t r=pre;have h0:=h.ml;rw[a3N,EL.out.1,EL.out.2,<- hrest,List.append_assoc];exact b2D (fun y hy=>by simpa using h.le y hy) (by omega) (hx.imp (fun e=>by simpa using e) (fun e=>by omega))
   obtain⟨v,hv,hrow⟩:=h.d;have hc:=hv.cell;have hb:=h.bl;obtain⟨a0,cap0,rfl⟩:=b1C hrow;clear h;refine wpIn_wide.2 ?_
   go_wp2_with fail
   refine⟨by simp,.inl ⟨_,_,rfl,run_takeDeferred hK,?_⟩⟩;refine⟨_,results_tmp rfl _ _ _,_,rfl,?_,hb.trans (belowK_b (w:=w) (zq _) W D _ _ (by omega) hK rfl rfl)⟩;rw[ED.out];exact ownsRow_putObj (a9c hrow (by omega)) _ hK rfl
def a0U(r:Rd.a0Y):List Int:=if Rd.a0L r=0 then Rd.a0t r else []
theorem b1Z{r:Rd.a0Y}(h:Rd.a6s r)(hx:x∈Rd.a0t r):0<=x/\x<728:=by
 have f0:=h.f0;rw[Rd.b3M h] at hx
 split at hx
 ·have:=Rd.a4x h hx;omega
 ·have:=Rd.a4x h (List.mem_of_mem_take hx);omega
theorem c2W(h:l≠[]):l[l.length-1]?=some (l.getLastD 0):=by
 rw[<- List.getLast?_eq_getElem?,List.getLast?_eq_some_getLast h,List.getLastD_eq_getLast?,List.getLast?_eq_some_getLast h];rfl
theorem c3i(r:Rd.a0Y)(h:Rd.a6s r):(Rd.a0t r).length<=99:=by
 have:=h.t1;unfold Rd.a0t
 split
 ·rw[List.length_take];omega
 ·rw[List.length_take];omega
theorem c6T{w':World}{size:Nat}(h:w.ownsRow B e size v n xs)(k:Below w.heap.size w w'):w'.ownsRow B e size v n xs:=by
 refine⟨h.1,h.2.imp id (fun ⟨g,cap,cur,h1,h2,h3,h4⟩=>⟨g,cap,cur,h1,h2,(k.block g (Array.getElem?_eq_some_iff.1 h3).1).trans h3,h4⟩)⟩
theorem b9R{size:Nat}(h:w.ownsRow B e size v n xs):w.drew.ownsRow B e size v n xs:=⟨h.1,h.2⟩
theorem b7z(r:Rd.a0Y)(hf:Rd.a6s r)(w:World)(ht:Tab w)(h10:10<=w.heap.size):
  Calls Tryz.prog 147 #[a1S r] w fun e w'=>∃ v,e=.returned (.tuple #[v,.int .i64 (Rd.a0L r)])/\w'.ownsRow w.heap.size 3 1 v (a0U r).length ((a0U r).map (Value.int .i64))/\Below w.heap.size w w':=by
 have hX:Below w.heap.size w (w.alloc (a0u r)):=(zr _ _).alloc (zq _) _;have hr:=World.alloc_heap_new w (a0u r);have hs:(w.alloc (a0u r)).heap.size=w.heap.size+1:=by simp
 have FI:=a0b (b2a r hf (w.alloc (a0u r)) (a3c ht hX h10) (by rw[hs];omega));have x0:=a7u hr;have x1:=a3R hr;have x2:=a7t hr;have x3:=a7s hr;have x4:=a7r hr;have x5:=a7q hr;have x6:=a7p hr;have x7:=a7o hr;have x8:=a7n hr;have x9:=a4m hr;have x10:=a6E hr;have x11:=a6D hr;have x12:=a6C hr;have x13:=a6B hr;have HX:=a0b (zA hX (zA hs hr));have hlen:=c3i r hf;have HF:=a0b hf;have GE:Hid (Rd.a0L r=if 40<r.ti then 11 else if 40<(Rd.a0t r).length then 11 else if Rd.a0t r=[]\/((Rd.a0t r).length:Int)<r.ti then 6 else if Rd.a8m r ((Rd.a0t r).getLastD 0) then 6 else 0):=rfl;have GD:Hid (a0U r=if Rd.a0L r=0 then Rd.a0t r else []):=rfl;have t1:=hf.t1;clear hX hr hs ht hf;unfold a1S at *
 by_cases c1:40<r.ti
 ·have e1:Rd.a0L r=11:=by rw[GE.out,if_pos c1]
  have e2:a0U r=[]:=by rw[GD.out,e1];simp
  rw[e1,e2];clear FI GE GD e1 e2
  go_enter Tryz.func147,Tryz.ntmps147
  go_upto_region 1 with fail
  change Code.wp _ _ _ _ (w.alloc (a0u r));generalize w.alloc (a0u r)=X at *
  go_wp2_with fail
  exact bodyPost_ret (v:=.tuple #[.slice none 0 0,.int .i64 11]) (by simp[results,Tryz.results147,go_sem]) rfl ⟨_,rfl,World.ownsRow_nil _ _ _ _,HX.out.1⟩
 ·rw[if_neg c1] at GE
  go_enter Tryz.func147,Tryz.ntmps147
  go_upto_region 1 with fail
  change Code.wp _ _ _ _ (w.alloc (a0u r));generalize w.alloc (a0u r)=X at *
  go_upto_region 4 with (first
   |(go_at_call 199;refine FI.out.mono ?_;rintro e w1 ⟨v,rfl,own,hb⟩))
  obtain⟨a,cap,rfl⟩:=b1C own;have BW:Hid (Below w.heap.size w w1):=HX.out.1.trans (hb.mono (by rw[HX.out.2.1];omega));have OW:Hid (w1.ownsRow w.heap.size 3 1 (.slice a (Rd.a0t r).length cap) (Rd.a0t r).length ((Rd.a0t r).map (Value.int .i64))):=a9c own (by rw[HX.out.2.1];omega);have MB:Hid (∀ x∈Rd.a0t r,0<=x/\x<728):=fun x hx=>b1Z HF.out hx
  have y0:=a0a hb x0;have y1:=a0a hb x1;have y2:=a0a hb x2;have y3:=a0a hb x3;have y4:=a0a hb x4;have y5:=a0a hb x5;have y6:=a0a hb x6;have y7:=a0a hb x7;have y8:=a0a hb x8;have y9:=a0a hb x9;have y10:=a0a hb x10;have y11:=a0a hb x11;have y12:=a0a hb x12;have y13:=a0a hb x13;clear FI x0 x1 x2 x3 x4 x5 x6 x7 x8 x9 x10 x11 x12 x13 own hb HX;generalize Rd.a0t r=L at *
  by_cases c2:40<L.length
  ·have e1:Hid (Rd.a0L r=11):=by show Rd.a0L r=11;rw[GE.out,if_pos c2]
   have e2:Hid (a0U r=[]):=by show a0U r=[];rw[GD.out,e1.out];simp
   have c2':(40:Int)<(L.length:Int):=by omega
   clear y0 y1 y2 y3 y4 y5 y6 y7 y8 y9 y10 y11 y12 y13 c2
   go_wp2_with fail
   exact bodyPost_ret (v:=.tuple #[.slice none 0 0,.int .i64 11]) (by simp[results,Tryz.results147,go_sem]) rfl ⟨_,by rw[e1.out],by rw[e2.out];exact World.ownsRow_nil _ _ _ _,BW.out⟩
  ·have c2':¬ (40:Int)<(L.length:Int):=by omega
   by_cases c3:L=[]
   ·have e1:Hid (Rd.a0L r=6):=by show Rd.a0L r=6;rw[GE.out,if_neg c2,if_pos (.inl c3)]
    have e2:Hid (a0U r=[]):=by show a0U r=[];rw[GD.out,e1.out];simp
    have c3':((L.length:Int)==0)=true:=by rw[c3];rfl
    clear y0 y1 y2 y3 y4 y5 y6 y7 y8 y9 y10 y11 y13 c3 c2
    go_wp2_with fail
    exact bodyPost_ret (v:=.tuple #[.slice none 0 0,.int .i64 6]) (by simp[results,Tryz.results147,go_sem]) rfl ⟨_,by rw[e1.out],by rw[e2.out];exact World.ownsRow_nil _ _ _ _,BW.out⟩
   ·have h0:0<L.length:=List.length_pos_iff.2 c3;have c3':((L.length:Int)==0)=false:=by simp;omega
    by_cases c4:(L.length:Int)<r.ti
    ·have e1:Hid (Rd.a0L r=6):=by show Rd.a0L r=6;rw[GE.out,if_neg c2,if_pos (.inr c4)]
     have e2:Hid (a0U r=[]):=by show a0U r=[];rw[GD.out,e1.out];simp
     clear y0 y1 y2 y3 y4 y5 y6 y7 y8 y9 y10 y11 y13 c3 c2
     go_wp2_with fail
     exact bodyPost_ret (v:=.tuple #[.slice none 0 0,.int .i64 6]) (by simp[results,Tryz.results147,go_sem]) rfl ⟨_,by rw[e1.out],by rw[e2.out];exact World.ownsRow_nil _ _ _ _,BW.out⟩
    ·obtain⟨Hh,cap',e0⟩:=Joins.ownsRow_form OW.out (by omega);simp only[Value.slice.injEq,true_and] at e0;obtain⟨rfl,rfl⟩:=e0;have a0:=OW.out.cellAt (L.length-1) (by omega);rw[List.getElem?_map,c2W c3,Option.map_some] at a0;have hl:=MB.out (L.getLastD 0) (by rw[List.getLastD_eq_getLast?,List.getLast?_eq_some_getLast c3];exact List.getLast_mem c3);have SO:=a0b (b0u r HF.out (L.getLastD 0) hl.1 (by omega) w1.drew);have GE4:Hid (Rd.a0L r=if Rd.a8m r (L.getLastD 0) then 6 else 0):=by show Rd.a0L r=_;rw[GE.out,if_neg c2,if_neg (by rintro (h|h) <;> contradiction)]
     have LB:Hid (Rd.a8m r (L.getLastD 0)=decide (1048320<(a4K r (L.getLastD 0)).2)):=rfl;have k1:IntKind.i64.wrap ((L.length:Int)-1)=((L.length-1:Nat):Int):=by rw[show (L.length:Int)-1=((L.length-1:Nat):Int) from by omega];exact a0i (by omega) (by omega)
     have k2:((L.length-1:Nat):Int)<(L.length:Int):=by omega
     generalize (a4K r (L.getLastD 0)).2=til at *;generalize (a4K r (L.getLastD 0)).1=fro at *;generalize L.getLastD 0=ld at *;unfold a1S at SO;clear c3 hl c2 MB GE;have hfd:∀ w:World,(Instr.field 60 (.agg #[.int .i64 fro,.int .i64 til]) 1).run Tryz.prog w=.ok (.int .i64 til) w:=fun _=>by kernel_rfl
     by_cases c5:1048320<til
     ·have e1:Hid (Rd.a0L r=6):=by show Rd.a0L r=6;rw[GE4.out,LB.out];simp[c5]
      have e2:Hid (a0U r=[]):=by show a0U r=[];rw[GD.out,e1.out];simp
      go_upto_region 9 with fail
      go_region_with (first
       |(go_at_call 200;refine SO.out.mono ?_;rintro e w2 ⟨rfl,hb2⟩))
      all_goals
       have BF:Hid (Below w.heap.size w w2):=BW.out.drew.trans (hb2.mono BW.out.size);clear hb2 y0 y1 y2 y3 y4 y5 y6 y7 y8 y9 y10 y11 y12 y13 a0
       go_wp2_with fail
       exact bodyPost_ret (v:=.tuple #[.slice none 0 0,.int .i64 6]) (by simp[results,Tryz.results147,go_sem]) rfl ⟨_,by rw[e1.out],by rw[e2.out];exact World.ownsRow_nil _ _ _ _,BF.out⟩
     ·have e1:Hid (Rd.a0L r=0):=by show Rd.a0L r=0;rw[GE4.out,LB.out];simp[c5]
      have e2:Hid (a0U r=L):=by show a0U r=L;rw[GD.out,e1.out];simp
      go_upto_region 9 with fail
      go_region_with (first
       |(go_at_call 200;refine SO.out.mono ?_;rintro e w2 ⟨rfl,hb2⟩))
      all_goals
       have BF:Hid (Below w.heap.size w w2/\w2.ownsRow w.heap.size 3 1 (.slice (some ⟨Hh,0,none⟩) L.length cap) L.length (L.map (Value.int .i64))):=⟨BW.out.drew.trans (hb2.mono BW.out.size),c6T (w:=w1.drew) (b9R OW.out) hb2⟩;clear hb2 y0 y1 y2 y3 y4 y5 y6 y7 y8 y9 y10 y11 y12 y13 a0
       go_wp2_with fail
       exact bodyPost_ret (v:=.tuple #[.slice (some ⟨Hh,0,none⟩) L.length cap,.int .i64 0]) (by simp[results,Tryz.results147,go_sem]) rfl ⟨_,by rw[e1.out],by rw[e2.out];exact BF.out.2,BF.out.1⟩
open Go.RowKit
open Desk (Ent St Ids kept a0C a0Q a1C a2e ofB a0y a2c Mid a1H a0z Inv)
theorem DSt.ansDays{Z:World}{r:Raw}(h:DSt w d s r col)(k:Below w.heap.size w Z)(hQ:w.heap.size<=Q){da:Value}(own:Z.ownsRow (Q+1) 3 1 da l.length (l.map (Value.int .i64)))(n:Int)(a b c e f g i:Value):
  a0l w d col (s,⟨0,0,n,[],l,[],[]⟩) (a0s 0 0 n (.slice none 0 0) da (.slice none 0 0) (.slice none 0 0)) (a2w Z Q a b c e f g i):=by
 have ko:=a2R Z Q a b c e f g i;have dz:=h.dk.later k;have nq:∀ b,Q<=b->col b=none:=fun b hb=>h.dk.none (by omega)
 have st:Step anyS w.heap.size col col Z (a2w Z Q a b c e f g i):=⟨⟨_,ko,fun x hx=>.inr (by have:x=Q:=List.mem_singleton.1 hx;subst this;exact⟨nq _ (zq _),hQ⟩)⟩,fun _ _ h=>h,fun _ _ h=>.inl h⟩
 have rp:a5m Z (Q+1) col (a0s 0 0 n (.slice none 0 0) da (.slice none 0 0) (.slice none 0 0)) ⟨0,0,n,[],l,[],[]⟩ :=
  ⟨_,_,_,_,[],rfl,rfl,a3j.nil _ _ _,⟨own,fun b hb=>nq b (by have:=(own.lt b hb).1;omega)⟩,a2I.nil _ _ _,a2I.nil _ _ _,(fun b hb=>by cases hb),fun b _=>by simp[Value.ownBlock]⟩
 exact⟨r,col,dz.off ko (fun x hx=>by have:x=Q:=List.mem_singleton.1 hx;subst this;exact nq _ (zq _)),h.of,h.wl,h.hl,(Step.below k).trans st,(rp.off ko (fun x hx=>by have:x=Q:=List.mem_singleton.1 hx;omega)).base (by omega)⟩
theorem a9G{r:Rd.a0Y}(hf:Rd.a6s r)(h:Rd.a0L r≠0):Desk.a0g s (.expand r)=(s,Desk.Rep.error (Rd.a0L r)):=by
 have e:=(Rd.a5K hf).1;simp only[Desk.a0g];rw[<- e,if_pos h]
theorem b5n{r:Rd.a0Y}(hf:Rd.a6s r)(h:Rd.a0L r=0):Desk.a0g s (.expand r)=(s,⟨0,0,((a0U r).length:Int),[],a0U r,[],[]⟩):=by
 obtain⟨e1,e2⟩:=Rd.a5K hf;have e3:=(e2 (by rw[<- e1];exact h)).1;have e4:a0U r=Rd.a0E r:=by unfold a0U;rw[if_pos h,e3]
 simp only[Desk.a0g];rw[<- e1,if_neg (by omega),e4];rfl
theorem c0R(w:World)(r:Rd.a0Y):let X:=((w.alloc (.cells #[.int .i64 r.pc,.int .i64 r.ev,.bool (isd r.acc 0),.bool (isd r.acc 1),.bool (isd r.acc 2),.bool (isd r.acc 3),.bool (isd r.acc 4),.bool (isd r.acc 5),.bool (isd r.acc 6),.int .i64 r.fr,.int .i64 r.mn,.int .i64 r.mi,.int .i64 r.ti,.int .i64 r.un] 180)).alloc a0f);Below w.heap.size w X/\X.heap[w.heap.size+1]?=some a0f/\X.heap.size=w.heap.size+2/\X.heap[w.heap.size]?=some (.cells #[.int .i64 r.pc,.int .i64 r.ev,.bool (isd r.acc 0),.bool (isd r.acc 1),.bool (isd r.acc 2),.bool (isd r.acc 3),.bool (isd r.acc 4),.bool (isd r.acc 5),.bool (isd r.acc 6),.int .i64 r.fr,.int .i64 r.mn,.int .i64 r.mi,.int .i64 r.ti,.int .i64 r.un] 180 (0,0)):=by
 obtain⟨h1,h2⟩:=a2q (w:=w) (.cells #[.int .i64 r.pc,.int .i64 r.ev,.bool (isd r.acc 0),.bool (isd r.acc 1),.bool (isd r.acc 2),.bool (isd r.acc 3),.bool (isd r.acc 4),.bool (isd r.acc 5),.bool (isd r.acc 6),.int .i64 r.fr,.int .i64 r.mn,.int .i64 r.mi,.int .i64 r.ti,.int .i64 r.un] 180);exact⟨h1,h2,by simp,(Below.heap_alloc _ _ _ (by simp)).trans (World.alloc_heap_new w _)⟩
theorem c6B{r:Rd.a0Y}(h:w.heap[b]?=some (.cells #[.int .i64 r.pc,.int .i64 r.ev,.bool (isd r.acc 0),.bool (isd r.acc 1),.bool (isd r.acc 2),.bool (isd r.acc 3),.bool (isd r.acc 4),.bool (isd r.acc 5),.bool (isd r.acc 6),.int .i64 r.fr,.int .i64 r.mn,.int .i64 r.mi,.int .i64 r.ti,.int .i64 r.un] 180 (0,0))):w.cell? ⟨b,0,none⟩=some (.int .i64 r.pc):=by simp only[World.cell?,h];rfl
theorem c6A{r:Rd.a0Y}(h:w.heap[b]?=some (.cells #[.int .i64 r.pc,.int .i64 r.ev,.bool (isd r.acc 0),.bool (isd r.acc 1),.bool (isd r.acc 2),.bool (isd r.acc 3),.bool (isd r.acc 4),.bool (isd r.acc 5),.bool (isd r.acc 6),.int .i64 r.fr,.int .i64 r.mn,.int .i64 r.mi,.int .i64 r.ti,.int .i64 r.un] 180 (0,0))):w.cell? ⟨b,1,none⟩=some (.int .i64 r.ev):=by simp only[World.cell?,h];rfl
theorem c6z{r:Rd.a0Y}(h:w.heap[b]?=some (.cells #[.int .i64 r.pc,.int .i64 r.ev,.bool (isd r.acc 0),.bool (isd r.acc 1),.bool (isd r.acc 2),.bool (isd r.acc 3),.bool (isd r.acc 4),.bool (isd r.acc 5),.bool (isd r.acc 6),.int .i64 r.fr,.int .i64 r.mn,.int .i64 r.mi,.int .i64 r.ti,.int .i64 r.un] 180 (0,0))):w.cell? ⟨b,2,none⟩=some (.bool (isd r.acc 0)):=by simp only[World.cell?,h];rfl
theorem c6y{r:Rd.a0Y}(h:w.heap[b]?=some (.cells #[.int .i64 r.pc,.int .i64 r.ev,.bool (isd r.acc 0),.bool (isd r.acc 1),.bool (isd r.acc 2),.bool (isd r.acc 3),.bool (isd r.acc 4),.bool (isd r.acc 5),.bool (isd r.acc 6),.int .i64 r.fr,.int .i64 r.mn,.int .i64 r.mi,.int .i64 r.ti,.int .i64 r.un] 180 (0,0))):w.cell? ⟨b,3,none⟩=some (.bool (isd r.acc 1)):=by simp only[World.cell?,h];rfl
theorem c6x{r:Rd.a0Y}(h:w.heap[b]?=some (.cells #[.int .i64 r.pc,.int .i64 r.ev,.bool (isd r.acc 0),.bool (isd r.acc 1),.bool (isd r.acc 2),.bool (isd r.acc 3),.bool (isd r.acc 4),.bool (isd r.acc 5),.bool (isd r.acc 6),.int .i64 r.fr,.int .i64 r.mn,.int .i64 r.mi,.int .i64 r.ti,.int .i64 r.un] 180 (0,0))):w.cell? ⟨b,4,none⟩=some (.bool (isd r.acc 2)):=by simp only[World.cell?,h];rfl
theorem c6w{r:Rd.a0Y}(h:w.heap[b]?=some (.cells #[.int .i64 r.pc,.int .i64 r.ev,.bool (isd r.acc 0),.bool (isd r.acc 1),.bool (isd r.acc 2),.bool (isd r.acc 3),.bool (isd r.acc 4),.bool (isd r.acc 5),.bool (isd r.acc 6),.int .i64 r.fr,.int .i64 r.mn,.int .i64 r.mi,.int .i64 r.ti,.int .i64 r.un] 180 (0,0))):w.cell? ⟨b,5,none⟩=some (.bool (isd r.acc 3)):=by simp only[World.cell?,h];rfl
theorem c6v{r:Rd.a0Y}(h:w.heap[b]?=some (.cells #[.int .i64 r.pc,.int .i64 r.ev,.bool (isd r.acc 0),.bool (isd r.acc 1),.bool (isd r.acc 2),.bool (isd r.acc 3),.bool (isd r.acc 4),.bool (isd r.acc 5),.bool (isd r.acc 6),.int .i64 r.fr,.int .i64 r.mn,.int .i64 r.mi,.int .i64 r.ti,.int .i64 r.un] 180 (0,0))):w.cell? ⟨b,6,none⟩=some (.bool (isd r.acc 4)):=by simp only[World.cell?,h];rfl
theorem c6u{r:Rd.a0Y}(h:w.heap[b]?=some (.cells #[.int .i64 r.pc,.int .i64 r.ev,.bool (isd r.acc 0),.bool (isd r.acc 1),.bool (isd r.acc 2),.bool (isd r.acc 3),.bool (isd r.acc 4),.bool (isd r.acc 5),.bool (isd r.acc 6),.int .i64 r.fr,.int .i64 r.mn,.int .i64 r.mi,.int .i64 r.ti,.int .i64 r.un] 180 (0,0))):w.cell? ⟨b,7,none⟩=some (.bool (isd r.acc 5)):=by simp only[World.cell?,h];rfl
theorem c6t{r:Rd.a0Y}(h:w.heap[b]?=some (.cells #[.int .i64 r.pc,.int .i64 r.ev,.bool (isd r.acc 0),.bool (isd r.acc 1),.bool (isd r.acc 2),.bool (isd r.acc 3),.bool (isd r.acc 4),.bool (isd r.acc 5),.bool (isd r.acc 6),.int .i64 r.fr,.int .i64 r.mn,.int .i64 r.mi,.int .i64 r.ti,.int .i64 r.un] 180 (0,0))):w.cell? ⟨b,8,none⟩=some (.bool (isd r.acc 6)):=by simp only[World.cell?,h];rfl
theorem c6s{r:Rd.a0Y}(h:w.heap[b]?=some (.cells #[.int .i64 r.pc,.int .i64 r.ev,.bool (isd r.acc 0),.bool (isd r.acc 1),.bool (isd r.acc 2),.bool (isd r.acc 3),.bool (isd r.acc 4),.bool (isd r.acc 5),.bool (isd r.acc 6),.int .i64 r.fr,.int .i64 r.mn,.int .i64 r.mi,.int .i64 r.ti,.int .i64 r.un] 180 (0,0))):w.cell? ⟨b,9,none⟩=some (.int .i64 r.fr):=by simp only[World.cell?,h];rfl
theorem c5p{r:Rd.a0Y}(h:w.heap[b]?=some (.cells #[.int .i64 r.pc,.int .i64 r.ev,.bool (isd r.acc 0),.bool (isd r.acc 1),.bool (isd r.acc 2),.bool (isd r.acc 3),.bool (isd r.acc 4),.bool (isd r.acc 5),.bool (isd r.acc 6),.int .i64 r.fr,.int .i64 r.mn,.int .i64 r.mi,.int .i64 r.ti,.int .i64 r.un] 180 (0,0))):w.cell? ⟨b,10,none⟩=some (.int .i64 r.mn):=by simp only[World.cell?,h];rfl
theorem c5o{r:Rd.a0Y}(h:w.heap[b]?=some (.cells #[.int .i64 r.pc,.int .i64 r.ev,.bool (isd r.acc 0),.bool (isd r.acc 1),.bool (isd r.acc 2),.bool (isd r.acc 3),.bool (isd r.acc 4),.bool (isd r.acc 5),.bool (isd r.acc 6),.int .i64 r.fr,.int .i64 r.mn,.int .i64 r.mi,.int .i64 r.ti,.int .i64 r.un] 180 (0,0))):w.cell? ⟨b,11,none⟩=some (.int .i64 r.mi):=by simp only[World.cell?,h];rfl
theorem c5n{r:Rd.a0Y}(h:w.heap[b]?=some (.cells #[.int .i64 r.pc,.int .i64 r.ev,.bool (isd r.acc 0),.bool (isd r.acc 1),.bool (isd r.acc 2),.bool (isd r.acc 3),.bool (isd r.acc 4),.bool (isd r.acc 5),.bool (isd r.acc 6),.int .i64 r.fr,.int .i64 r.mn,.int .i64 r.mi,.int .i64 r.ti,.int .i64 r.un] 180 (0,0))):w.cell? ⟨b,12,none⟩=some (.int .i64 r.ti):=by simp only[World.cell?,h];rfl
theorem c5m{r:Rd.a0Y}(h:w.heap[b]?=some (.cells #[.int .i64 r.pc,.int .i64 r.ev,.bool (isd r.acc 0),.bool (isd r.acc 1),.bool (isd r.acc 2),.bool (isd r.acc 3),.bool (isd r.acc 4),.bool (isd r.acc 5),.bool (isd r.acc 6),.int .i64 r.fr,.int .i64 r.mn,.int .i64 r.mi,.int .i64 r.ti,.int .i64 r.un] 180 (0,0))):w.cell? ⟨b,13,none⟩=some (.int .i64 r.un):=by simp only[World.cell?,h];rfl
theorem b8D(h:DSt w d s rw_ col)(ht:Tab w)(h10:10<=w.heap.size)(r:Rd.a0Y)(hf:Rd.a6s r):
  Calls Tryz.prog 102 #[.agg #[.int .i64 r.pc,.int .i64 r.ev,.bool (isd r.acc 0),.bool (isd r.acc 1),.bool (isd r.acc 2),.bool (isd r.acc 3),.bool (isd r.acc 4),.bool (isd r.acc 5),.bool (isd r.acc 6),.int .i64 r.fr,.int .i64 r.mn,.int .i64 r.mi,.int .i64 r.ti,.int .i64 r.un]] w fun e w'=>∃ v,e=.returned v/\a0l w d col (Desk.a0g s (.expand r)) v w':=by
 obtain⟨hX,hXQ,hsz,hXb⟩:=c0R w r;have DY:=a0b (b7z r hf ((w.alloc (.cells #[.int .i64 r.pc,.int .i64 r.ev,.bool (isd r.acc 0),.bool (isd r.acc 1),.bool (isd r.acc 2),.bool (isd r.acc 3),.bool (isd r.acc 4),.bool (isd r.acc 5),.bool (isd r.acc 6),.int .i64 r.fr,.int .i64 r.mn,.int .i64 r.mi,.int .i64 r.ti,.int .i64 r.un] 180)).alloc a0f) (a3c ht hX h10) (by rw[hsz];omega));have HE:=a0b (a9G (s:=s) hf);have HO:=a0b (b5n (s:=s) hf);have HH:=a0b h;have HX:=a0b (zA hX (zA hXQ hsz));have x0:=c6B hXb;have x1:=c6A hXb;have x2:=c6z hXb;have x3:=c6y hXb;have x4:=c6x hXb;have x5:=c6w hXb;have x6:=c6v hXb;have x7:=c6u hXb;have x8:=c6t hXb;have x9:=c6s hXb;have x10:=c5p hXb;have x11:=c5o hXb;have x12:=c5n hXb;have x13:=c5m hXb;unfold a1S at DY;clear h hX hXQ hsz hXb hf ht
 go_enter Tryz.func102,Tryz.ntmps102
 go_upto_region 1 with fail
 change Code.wp _ _ _ _ ((w.alloc (.cells #[.int .i64 r.pc,.int .i64 r.ev,.bool (isd r.acc 0),.bool (isd r.acc 1),.bool (isd r.acc 2),.bool (isd r.acc 3),.bool (isd r.acc 4),.bool (isd r.acc 5),.bool (isd r.acc 6),.int .i64 r.fr,.int .i64 r.mn,.int .i64 r.mi,.int .i64 r.ti,.int .i64 r.un] 180)).alloc a0f);generalize ((w.alloc (.cells #[.int .i64 r.pc,.int .i64 r.ev,.bool (isd r.acc 0),.bool (isd r.acc 1),.bool (isd r.acc 2),.bool (isd r.acc 3),.bool (isd r.acc 4),.bool (isd r.acc 5),.bool (isd r.acc 6),.int .i64 r.fr,.int .i64 r.mn,.int .i64 r.mi,.int .i64 r.ti,.int .i64 r.un] 180)).alloc a0f)=X at *
 go_upto_region 2 with (first
  |(go_at_call 147;refine DY.out.mono ?_;rintro e w1 ⟨da,rfl,own,hb⟩))
 obtain⟨a1,cap,rfl⟩:=b1C own;have BX:Hid (Below w.heap.size w w1):=HX.out.1.trans (hb.mono HX.out.1.size);have QX:Hid (Q7 w1 (w.heap.size+1)):=(Q7.of HX.out.2.1).later (hb.block _ (by rw[HX.out.2.2];omega));have OW:Hid (w1.ownsRow (w.heap.size+1+1) 3 1 (.slice a1 (a0U r).length cap) (a0U r).length ((a0U r).map (Value.int .i64))):=by have:=own;rw[HX.out.2.2] at this;exact this
 clear DY x0 x1 x2 x3 x4 x5 x6 x7 x8 x9 x10 x11 x12 x13 own hb HX
 by_cases he:Rd.a0L r=0
 ·have HD:=a0b (HO.out he);have hb1:(Rd.a0L r != 0)=false:=by simpa using he
  have AF:Hid (∀ a b c e f g i,a0l w d col (Desk.a0g s (.expand r)) (a0s 0 0 ((a0U r).length:Int) (.slice none 0 0) (.slice a1 (a0U r).length cap) (.slice none 0 0) (.slice none 0 0)) (a2w w1 (w.heap.size+1) a b c e f g i)):=fun a b c e f g i=>by rw[HD.out];exact HH.out.ansDays BX.out (by omega) OW.out _ a b c e f g i
  clear HE HO HD OW;generalize (a0U r).length=nn at *;generalize Rd.a0L r=er at *;subst he;obtain⟨q0,q1,q2,q3,q4,q5,q6,fq⟩:=QX.out
  go_wp2_with fail
  exact bodyPost_ret (v:=a0s 0 0 (nn:Int) (.slice none 0 0) (.slice a1 nn cap) (.slice none 0 0) (.slice none 0 0)) (by simp[results,Tryz.results102,go_sem,a0s,q0,q1,q2,q3,q4,q5,q6]) rfl ⟨_,rfl,AF.out _ _ _ _ _ _ _⟩
 ·have HD:=a0b (HE.out he);have hb1:(Rd.a0L r != 0)=true:=by simpa using he
  clear HE HO OW he;generalize Rd.a0L r=er at *
  go_wp2_with fail
  refine (a0D er w1).mono ?_;rintro e w2 ⟨rfl,hb2⟩;have hq:=hb2.block (w.heap.size+1) (World.block_lt_of_cell? _ _ QX.out.q0)
  have HF:Hid (a0l w d col (Desk.a0g s (.expand r)) (a0s er 0 0 (.slice none 0 0) (.slice none 0 0) (.slice none 0 0) (.slice none 0 0)) (a2w w2 (w.heap.size+1) (.int .i64 er) (.int .i64 0) (.int .i64 0) (.slice none 0 0) (.slice none 0 0) (.slice none 0 0) (.slice none 0 0))):=by
   rw[HD.out];exact HH.out.said (BX.out.trans (hb2.mono BX.out.size)) (by omega) er 0 _ _ _ _ _ _ _
  obtain⟨q0,q1,q2,q3,q4,q5,q6,fq⟩:=QX.out.later hq;simp only[a0s]
  go_wp2_with fail
  exact bodyPost_ret (v:=a0s er 0 0 (.slice none 0 0) (.slice none 0 0) (.slice none 0 0) (.slice none 0 0)) (by simp[results,Tryz.results102,go_sem,a0s,q0,q1,q2,q3,q4,q5,q6]) rfl ⟨_,rfl,HF.out⟩
theorem b2m(h:DSt w d s rw_ col)(ht:Tab w)(h10:10<=w.heap.size)(r:Rd.a0Y)(hf:Rd.a6s r):
  Calls Tryz.prog 64 #[.pointer (some ⟨d,0,none⟩),.iface 180 (.agg #[.int .i64 r.pc,.int .i64 r.ev,.bool (isd r.acc 0),.bool (isd r.acc 1),.bool (isd r.acc 2),.bool (isd r.acc 3),.bool (isd r.acc 4),.bool (isd r.acc 5),.bool (isd r.acc 6),.int .i64 r.fr,.int .i64 r.mn,.int .i64 r.mi,.int .i64 r.ti,.int .i64 r.un])] w fun e w'=>∃ v,e=.returned v/\a0l w d col (Desk.a0g s (.expand r)) v w':=by
 have hX:Below w.heap.size w ((w.alloc a0f).alloc (.cells #[.int .i64 r.pc,.int .i64 r.ev,.bool (isd r.acc 0),.bool (isd r.acc 1),.bool (isd r.acc 2),.bool (isd r.acc 3),.bool (isd r.acc 4),.bool (isd r.acc 5),.bool (isd r.acc 6),.int .i64 r.fr,.int .i64 r.mn,.int .i64 r.mi,.int .i64 r.ti,.int .i64 r.un] 180)):=((zr _ _).alloc (zq _) _).alloc (by simp) _;have hq:((w.alloc a0f).alloc (.cells #[.int .i64 r.pc,.int .i64 r.ev,.bool (isd r.acc 0),.bool (isd r.acc 1),.bool (isd r.acc 2),.bool (isd r.acc 3),.bool (isd r.acc 4),.bool (isd r.acc 5),.bool (isd r.acc 6),.int .i64 r.fr,.int .i64 r.mn,.int .i64 r.mi,.int .i64 r.ti,.int .i64 r.un] 180)).heap[w.heap.size]?=some a0f:=(Below.heap_alloc _ _ _ (by simp)).trans (a0p w a0f);have hs:w.heap.size<((w.alloc a0f).alloc (.cells #[.int .i64 r.pc,.int .i64 r.ev,.bool (isd r.acc 0),.bool (isd r.acc 1),.bool (isd r.acc 2),.bool (isd r.acc 3),.bool (isd r.acc 4),.bool (isd r.acc 5),.bool (isd r.acc 6),.int .i64 r.fr,.int .i64 r.mn,.int .i64 r.mi,.int .i64 r.ti,.int .i64 r.un] 180)).heap.size:=by simp;omega
 have EF:=a0b (b8D (w:=((w.alloc a0f).alloc (.cells #[.int .i64 r.pc,.int .i64 r.ev,.bool (isd r.acc 0),.bool (isd r.acc 1),.bool (isd r.acc 2),.bool (isd r.acc 3),.bool (isd r.acc 4),.bool (isd r.acc 5),.bool (isd r.acc 6),.int .i64 r.fr,.int .i64 r.mn,.int .i64 r.mi,.int .i64 r.ti,.int .i64 r.un] 180))) ⟨h.dk.later hX,h.of,h.wl,h.hl,h.inv⟩ (a3c ht hX h10) (Nat.le_trans h10 hX.size) r hf);have HX:=a0b (zA hX (zA (Q7.of hq) (zA (h.dk.none (zq _)) hs)));clear h hX hq hs;unfold a0f at EF HX;have noThing:=d0q 180 (by decide);have noBook:=d2o 180 (by decide);have noHold:=d2F 180 (by decide);have noWait:=d3H 180 (by decide);have noSeries:=d0K 180 (by decide);have noConfirm:=d0y 180 (by decide);have noCancel:=d1Q 180 (by decide);have noList:=d8g 180 (by decide);have noWaiting:=d2E 180 (by decide);have noPeak:=e3J 180 (by decide);have noFind:=e7l 180 (by decide);have yesExpand:∀ (xT:TypeId) (v:Value) (w:World),(Instr.typeAssert (.iface 180 v) xT 180 true).run Tryz.prog w=.ok (.tuple #[v,.bool true]) w:=by intro xT v w;simp[Instr.typeAssert,go_sem,Result.andThen,run_underlying Tryz.underlying180]
 go_enter Tryz.func64,Tryz.ntmps64
 go_wp2_with fail
 refine EF.out.mono ?_;rintro e w2 ⟨v,rfl,ep⟩;obtain⟨er,at_,nn,a1,a2,a3,a4,n1,n2,n3,n4,c1,c2,c3,c4,rfl,q7,hf⟩:=ep.up HX.out.1 (zq _) HX.out.2.2.2 HX.out.2.2.1 HX.out.2.1;have HF:=a0b (hf (.int .i64 er) (.int .i64 at_) (.int .i64 nn) (.slice a1 n1 c1) (.slice a2 n2 c2) (.slice a3 n3 c3) (.slice a4 n4 c4));clear ep hf EF noThing noBook noHold noWait noSeries noConfirm noCancel noList noWaiting noPeak noFind yesExpand;obtain⟨q0,q1,q2,q3,q4,q5,q6,fq⟩:=q7;simp only[a0s]
 go_wp2_with fail
 exact bodyPost_ret (v:=a0s er at_ nn (.slice a1 n1 c1) (.slice a2 n2 c2) (.slice a3 n3 c3) (.slice a4 n4 c4)) (by simp[results,Tryz.results64,go_sem,a0s,q0,q1,q2,q3,q4,q5,q6]) rfl ⟨_,rfl,HF.out⟩
theorem c4d:∀ (L:List (Int × Int))(j:Nat)(u:Value),(L.flatMap spV)[j]?=some u->∃ (i:Nat)(h:i<L.length),(j=i*2/\u=.int .i64 L[i].1)\/(j=i*2+1/\u=.int .i64 L[i].2)
 |[],j,u,h=>by simp at h
 |p :: L,0,u,h=>by
  refine⟨0,by simp,.inl ⟨rfl,?_⟩⟩;simp[spV] at h;exact h.symm
 |p :: L,1,u,h=>by
  refine⟨0,by simp,.inr ⟨rfl,?_⟩⟩;simp[spV] at h;exact h.symm
 |p :: L,j+2,u,h=>by
  have h':(L.flatMap spV)[j]?=some u:=by simpa[spV] using h
  obtain⟨i,hi,e⟩:=c4d L j u h';refine⟨i+1,by simp;omega,?_⟩;rcases e with ⟨e1,e2⟩|⟨e1,e2⟩
  ·exact .inl ⟨by omega,by simpa using e2⟩
  ·exact .inr ⟨by omega,by simpa using e2⟩
theorem b0S(L:List (Int × Int)):(L.flatMap spV).length=L.length*2:=by
 induction L with
 |nil=>rfl
 |cons p L ih=>simp[spV,ih];omega
theorem b8A(L:List (Int × Int)):∀ u∈L.flatMap spV,u.oneCell'=true:=by
 intro u hu;obtain⟨p,_,hp⟩:=List.mem_flatMap.1 hu;simp[spV] at hp;rcases hp with rfl|rfl <;> rfl
theorem b4C(w:World)(B cap:Nat)(L:List (Int × Int))(hs:SL w B L)(hL:L.length<=100):
  Calls Tryz.prog 210 #[.slice (some ⟨B,0,none⟩) L.length cap] w fun e w'=>∃ v,e=.returned v/\w'.ownsRow w.heap.size 60 2 v L.length (L.flatMap spV)/\Below w.heap.size w w':=by
 obtain⟨i0,hi0,hz0,hz1,hz2⟩:=info_parts b6Q;have q22:∀ (w:World) (a:Option Addr) (n c n' c':Nat),(binOp .eql 56 (.slice a n c) (.slice none n' c')).run Tryz.prog w=.ok (.bool a.isNone) w:=fun w a n c n' c'=>Lib.run_eql_slice_nil w _ _ a n c n' c' Tryz.underlying56
 have HS:=a0b hs;clear hs
 go_enter Tryz.func210,Tryz.ntmps210
 go_wp2_with (at_builtin;refine wpList_append_own _ rfl _ _ 56 rfl w.heap.size 60 i0 _ 2 16 Tryz.underlying56 hi0 hz0 hz1 hz2 rfl (by decide) _ _ _ rfl (World.ownsRow_made w #[] 0 (zq _) (zN _) rfl) ⟨B,0,none⟩ L.length cap (L.flatMap spV) rfl ?qc1 ?qc2 ?qc3 ?qc4 ?qc5 ?qc6 ?_)
 case qc1=>exact b0S L
 case qc2 =>
  intro j u hj;rw[Addr.add_lit];refine Lib.cell?_alloc_some _ ?_;obtain⟨i,hi,⟨rfl,rfl⟩|⟨rfl,rfl⟩⟩:=c4d L j u hj
  ·have:=(HS.out i hi).1
   simpa using this
  ·have:=(HS.out i hi).2
   simpa using this
 case qc3=>exact b8A L
 case qc4=>unfold maxLen;omega
 case qc5=>omega
 case qc6=>simp
 intro v' w1 hown hgrow hnil;go_wp2;go_ret;refine⟨v',rfl,by simpa using hown,?_⟩;exact ((zr _ w).alloc (zq _) _).grown hgrow (by simp) (by intro k hk;simp[Value.ownBlock] at hk;omega)
def a3U:Obj:=.cells #[.int .i64 0,.int .i64 0,.string ByteArray.empty,.int .i64 0,.slice none 0 0,.int .i64 0] 58 (0,0)
def a8k(e:Ent)(v:Value):Value:=.agg #[.int .i64 e.id,.int .i64 e.kind,.string e.a0k,.int .i64 e.a0c,v,.int .i64 e.a0Z]
def c5K(Z:World)(Q:Nat)(a b c d e f:Value):World:=(((((Z.setCell ⟨Q,0,none⟩ a).setCell ⟨Q,1,none⟩ b).setCell ⟨Q,2,none⟩ c).setCell ⟨Q,3,none⟩ d).setCell ⟨Q,4,none⟩ e).setCell ⟨Q,5,none⟩ f
theorem b6a(Z:World)(Q:Nat)(a b c d e f:Value):Off [Q] Z (c5K Z Q a b c d e f) :=
 ((((((Off.refl [Q] Z).setCell (.inl (by simp)) _ _).setCell (.inl (by simp)) _ _).setCell (.inl (by simp)) _ _).setCell (.inl (by simp)) _ _).setCell (.inl (by simp)) _ _).setCell (.inl (by simp)) _ _
def b2p(w:World)(e:Ent)(v:Value)(w':World):Prop:=∃ sp,v=a8k e sp/\w'.ownsRow w.heap.size 60 2 sp e.a0e.length (e.a0e.flatMap spV)/\Below w.heap.size w w'
theorem c7v(h:w.heap[Q]?=some a3U):w.cell? ⟨Q,0,none⟩=some (.int .i64 0):=by unfold a3U at h;simp only[World.cell?,h];rfl
theorem c7u(h:w.heap[Q]?=some a3U):w.cell? ⟨Q,1,none⟩=some (.int .i64 0):=by unfold a3U at h;simp only[World.cell?,h];rfl
theorem c7t(h:w.heap[Q]?=some a3U):w.cell? ⟨Q,2,none⟩=some (.string ByteArray.empty):=by unfold a3U at h;simp only[World.cell?,h];rfl
theorem c7s(h:w.heap[Q]?=some a3U):w.cell? ⟨Q,3,none⟩=some (.int .i64 0):=by unfold a3U at h;simp only[World.cell?,h];rfl
theorem c7r(h:w.heap[Q]?=some a3U):w.cell? ⟨Q,4,none⟩=some (.slice none 0 0):=by unfold a3U at h;simp only[World.cell?,h];rfl
theorem c7q(h:w.heap[Q]?=some a3U):w.cell? ⟨Q,5,none⟩=some (.int .i64 0):=by unfold a3U at h;simp only[World.cell?,h];rfl
theorem c7p(h:w.heap[Q]?=some a3U):∀ o,w.frozen? ⟨Q,o,none⟩=false:=fun o=>frozen_of_row _ Q o _ _ h
theorem c2d(w:World)(g:EG)(h:ENK w g)(hn:w.cell? ⟨g.tb,0,none⟩=some (.string g.e.a0k))(hL:g.e.a0e.length<=100):
  Calls Tryz.prog 152 #[.pointer (some ⟨g.eb,0,none⟩)] w fun e w'=>∃ v,e=.returned v/\b2p w g.e v w':=by
 have hX:Below w.heap.size w (w.alloc a3U):=(zr _ _).alloc (zq _) _;have hq:=a0p w a3U;have hx:=h.off (G:=[]) (Off.of_below hX) (by simp) (by simp);have c0:=hx.en.c0;have c1:=hx.k;have c2:=hx.en.c1;have c3:=hx.en.c2;have c4:=hx.en.c3;have c5:=hx.u;have cn:=a0a hX hn;have CL:=a0b (b4C (w.alloc a3U).drew g.B g.cap g.e.a0e (hx.en.sl.off (G:=[]) (Off.of_below (a0q _)) (by simp)) hL);have HX:=a0b (zA hX hq);have hne:g.eb≠w.heap.size/\g.tb≠w.heap.size:=⟨by have:=h.lt;omega,by have h1:g.tb<w.heap.size:=World.block_lt_of_cell? _ _ hn;omega⟩;clear h hn hX hq hx
 go_enter Tryz.func152,Tryz.ntmps152
 go_upto_region 1 with fail
 change Code.wp _ _ _ _ (w.alloc a3U);have hs:w.heap.size<(w.alloc a3U).heap.size:=by simp
 generalize w.alloc a3U=X at *;have AC:Hid (∀ w2,Below X.drew.heap.size X.drew w2->w2.cell? ⟨g.eb,0,none⟩=some (.int .i64 g.e.id)/\w2.cell? ⟨g.eb,1,none⟩=some (.int .i64 g.e.kind)/\w2.cell? ⟨g.eb,2,none⟩=some (.pointer (some ⟨g.tb,0,none⟩))/\w2.cell? ⟨g.eb,3,none⟩=some (.int .i64 g.e.a0c)/\w2.cell? ⟨g.eb,4,none⟩=some (.slice (some ⟨g.B,0,none⟩) g.e.a0e.length g.cap)/\w2.cell? ⟨g.eb,5,none⟩=some (.int .i64 g.e.a0Z)/\w2.cell? ⟨g.tb,0,none⟩=some (.string g.e.a0k)):=fun w2 k=>⟨a0a k c0,a0a k c1,a0a k c2,a0a k c3,a0a k c4,a0a k c5,a0a k cn⟩
 have AQ:Hid (∀ w2,Below X.drew.heap.size X.drew w2->w2.heap[w.heap.size]?=some a3U):=fun w2 k=>(k.block _ hs).trans HX.out.2
 have AS:Hid (∀ w2 a b c d e f,Below X.drew.heap.size X.drew w2->((((((w2.setCell ⟨w.heap.size,0,none⟩ a).setCell ⟨w.heap.size,1,none⟩ b).setCell ⟨w.heap.size,2,none⟩ c).setCell ⟨w.heap.size,3,none⟩ d).setCell ⟨w.heap.size,4,none⟩ e).setCell ⟨w.heap.size,5,none⟩ f).cell? ⟨g.eb,0,none⟩=some (.int .i64 g.e.id)/\((((((w2.setCell ⟨w.heap.size,0,none⟩ a).setCell ⟨w.heap.size,1,none⟩ b).setCell ⟨w.heap.size,2,none⟩ c).setCell ⟨w.heap.size,3,none⟩ d).setCell ⟨w.heap.size,4,none⟩ e).setCell ⟨w.heap.size,5,none⟩ f).cell? ⟨g.eb,1,none⟩=some (.int .i64 g.e.kind)/\((((((w2.setCell ⟨w.heap.size,0,none⟩ a).setCell ⟨w.heap.size,1,none⟩ b).setCell ⟨w.heap.size,2,none⟩ c).setCell ⟨w.heap.size,3,none⟩ d).setCell ⟨w.heap.size,4,none⟩ e).setCell ⟨w.heap.size,5,none⟩ f).cell? ⟨g.eb,2,none⟩=some (.pointer (some ⟨g.tb,0,none⟩))/\((((((w2.setCell ⟨w.heap.size,0,none⟩ a).setCell ⟨w.heap.size,1,none⟩ b).setCell ⟨w.heap.size,2,none⟩ c).setCell ⟨w.heap.size,3,none⟩ d).setCell ⟨w.heap.size,4,none⟩ e).setCell ⟨w.heap.size,5,none⟩ f).cell? ⟨g.eb,3,none⟩=some (.int .i64 g.e.a0c)/\((((((w2.setCell ⟨w.heap.size,0,none⟩ a).setCell ⟨w.heap.size,1,none⟩ b).setCell ⟨w.heap.size,2,none⟩ c).setCell ⟨w.heap.size,3,none⟩ d).setCell ⟨w.heap.size,4,none⟩ e).setCell ⟨w.heap.size,5,none⟩ f).cell? ⟨g.eb,4,none⟩=some (.slice (some ⟨g.B,0,none⟩) g.e.a0e.length g.cap)/\((((((w2.setCell ⟨w.heap.size,0,none⟩ a).setCell ⟨w.heap.size,1,none⟩ b).setCell ⟨w.heap.size,2,none⟩ c).setCell ⟨w.heap.size,3,none⟩ d).setCell ⟨w.heap.size,4,none⟩ e).setCell ⟨w.heap.size,5,none⟩ f).cell? ⟨g.eb,5,none⟩=some (.int .i64 g.e.a0Z)/\((((((w2.setCell ⟨w.heap.size,0,none⟩ a).setCell ⟨w.heap.size,1,none⟩ b).setCell ⟨w.heap.size,2,none⟩ c).setCell ⟨w.heap.size,3,none⟩ d).setCell ⟨w.heap.size,4,none⟩ e).setCell ⟨w.heap.size,5,none⟩ f).cell? ⟨g.tb,0,none⟩=some (.string g.e.a0k)):=fun w2 a b c d e f k=>by
  have o:=b6a w2 w.heap.size a b c d e f;obtain⟨k0,k1,k2,k3,k4,k5,k6⟩:=AC.out w2 k;exact⟨o.cell (by simpa using hne.1) k0,o.cell (by simpa using hne.1) k1,o.cell (by simpa using hne.1) k2,o.cell (by simpa using hne.1) k3,o.cell (by simpa using hne.1) k4,o.cell (by simpa using hne.1) k5,o.cell (by simpa using hne.2) k6⟩
 clear hne
 go_region_held3 (fun w'=>w'.cell? ⟨g.eb,0,none⟩=some (.int .i64 g.e.id)/\w'.cell? ⟨g.eb,1,none⟩=some (.int .i64 g.e.kind)/\w'.cell? ⟨g.eb,2,none⟩=some (.pointer (some ⟨g.tb,0,none⟩))/\w'.cell? ⟨g.eb,3,none⟩=some (.int .i64 g.e.a0c)/\w'.cell? ⟨g.eb,4,none⟩=some (.slice (some ⟨g.B,0,none⟩) g.e.a0e.length g.cap)/\w'.cell? ⟨g.eb,5,none⟩=some (.int .i64 g.e.a0Z)/\w'.cell? ⟨g.tb,0,none⟩=some (.string g.e.a0k))
  (first
   |with_reducible exact AS.out _ _ _ _ _ _ _ hb2
   |with_reducible exact AC.out _ hb2
   |exact⟨c0,c1,c2,c3,c4,c5,cn⟩)
  (first
   |(go_at_call 210;refine CL.out.mono ?_;rintro e w2 ⟨v,rfl,ho,hb2⟩;obtain⟨va,vc,rfl⟩:=a0B ho;have hq2:=AQ.out w2 hb2;have q0:=c7v hq2;have q1:=c7u hq2;have q2:=c7t hq2;have q3:=c7s hq2;have q4:=c7r hq2;have q5:=c7q hq2;have fq:=c7p hq2;clear hq2))
 have HF:Hid (b2p w g.e (a8k g.e (.slice va g.e.a0e.length vc)) (c5K w2 w.heap.size (.int .i64 g.e.id) (.int .i64 g.e.kind) (.string g.e.a0k) (.int .i64 g.e.a0c) (.slice va g.e.a0e.length vc) (.int .i64 g.e.a0Z))):=by
  have hXs:=HX.out.1.size;have k:=b6a w2 w.heap.size (.int .i64 g.e.id) (.int .i64 g.e.kind) (.string g.e.a0k) (.int .i64 g.e.a0c) (.slice va g.e.a0e.length vc) (.int .i64 g.e.a0Z);have h1:Below w.heap.size w w2:=HX.out.1.drew.trans (hb2.mono hXs);refine⟨_,rfl,a1i (Joins.ownsRow_le ho hXs) k (fun b hb hx=>?_),?_⟩
  ·have:=(ho.lt b hb).1;have e:b=w.heap.size:=List.mem_singleton.1 hx;have hs':w.heap.size<X.drew.heap.size:=hs;omega
  ·exact⟨k.os.trans h1.os,k.tape.trans h1.tape,k.output.trans h1.output,Nat.le_trans h1.size k.size,fun b hb=>(k.block b (zL hb h1.size) (by simp;omega)).trans (h1.block b hb)⟩
 clear ho hb2 CL AC AQ AS c0 c1 c2 c3 c4 c5 cn HX hs
 go_wp2_with fail
 exact bodyPost_ret (v:=a8k g.e (.slice va g.e.a0e.length vc)) (by simp[results,Tryz.results152,go_sem,a8k,q0,q1,q2,q3,q4,q5]) rfl ⟨_,rfl,HF.out⟩
theorem b6R:(Tryz.prog.info? 58).map (fun i=>(i.zero,i.size,i.bytes))=some (some (.agg #[.int .i64 0,.int .i64 0,.string ByteArray.empty,.int .i64 0,.slice none 0 0,.int .i64 0]),6,72):=by kernel_rfl
theorem DSt.tells{wx:World}{r:Raw}(h:DSt w d s r col)(k:Below w.heap.size w wx){g:EG}(hg:g∈r.eg):
  Calls Tryz.prog 152 #[.pointer (some ⟨g.eb,0,none⟩)] wx fun e w'=>∃ v,e=.returned v/\b2p wx g.e v w':=by
 have d1:=h.dk.later k;obtain⟨i,hi,e1,e2⟩:=h.of.tb g hg;obtain⟨ul,us,Fl,Fs,t1,_⟩:=d1.th i hi;have hc:=t1.c0;rw[e1,<- e2] at hc;exact c2d wx g (d1.en g hg).1 hc (by have:=(h.inv.en _ (h.of.mem hg)).sl;omega)
theorem a3M:∀ {l:List (Ent × Value)}{k:Nat}(hk:k<l.length){j:Nat}(_:j<6),(l.flatMap a1f)[k*6+j]?=(a1f l[k])[j]?
 |p :: l,0,hk,j,hj=>by
  have e:(p :: l).flatMap a1f=a1f p++l.flatMap a1f:=by simp
  rw[e,List.getElem?_append_left (by simp[a1f];omega)];simp
 |p :: l,k+1,hk,j,hj=>by
  have hk':k<l.length:=by simpa using hk
  have e:(p :: l).flatMap a1f=a1f p++l.flatMap a1f:=by simp
  have hl:(a1f p).length=6:=rfl;rw[e,List.getElem?_append_right (by rw[hl];omega),hl,show (k+1)*6+j-6=k*6+j by omega,a3M hk' hj];simp
theorem b8q(eb:Nat)(id:Int)(x:Ent)(a:Option Addr)(n c:Nat)(w:World)(hc:w.cell? ⟨eb,0,none⟩=some (.int .i64 id)):
  Calls Tryz.prog 209 #[.pointer (some ⟨eb,0,none⟩),a8k x (.slice a n c)] w fun e w'=>e=.returned (.bool (x.id==id))/\Below w.heap.size w w':=by
 have hX:Below w.heap.size w (w.alloc (.cells #[.int .i64 x.id,.int .i64 x.kind,.string x.a0k,.int .i64 x.a0c,.slice a n c,.int .i64 x.a0Z] 58)):=(zr _ _).alloc (zq _) _;have x0:(w.alloc (.cells #[.int .i64 x.id,.int .i64 x.kind,.string x.a0k,.int .i64 x.a0c,.slice a n c,.int .i64 x.a0Z] 58)).cell? ⟨w.heap.size,0,none⟩=some (.int .i64 x.id):=by simp
 have x1:=a0a hX hc;have HX:=a0b hX;clear hX hc;unfold a8k
 go_enter Tryz.func209,Tryz.ntmps209
 go_upto_region 1 with fail
 generalize w.alloc (.cells #[.int .i64 x.id,.int .i64 x.kind,.string x.a0k,.int .i64 x.a0c,.slice a n c,.int .i64 x.a0Z] 58)=X at *
 go_big_region
 go_wp2_with fail
 go_ret;exact⟨rfl,HX.out.drew⟩
theorem b1T(l:List (Ent × Value))(v:Value)(B eb:Nat)(id:Int)(w:World)(own:w.ownsRow B 58 6 v l.length (l.flatMap a1f))(hs:∀ p∈l,∃ a n c,p.2=.slice a n c)(hc:w.cell? ⟨eb,0,none⟩=some (.int .i64 id))(hl:l.length<=1000):
  Calls Tryz.prog 256 #[v,.func (.func 209) #[.pointer (some ⟨eb,0,none⟩)] #[]] w fun e w'=>e=.returned (.int .i64 (a3z (fun p:Ent × Value=>p.1.id==id) l 0))/\Below w.heap.size w w':=by
 obtain⟨a,cap,rfl⟩:=a0B own;have CC:=a0b hc;have HS:=a0b hs;have OWN:=a0b own;clear hc hs own
 go_enter Tryz.func256,Tryz.ntmps256
 go_wp2_with fail
 go_loopw [8] (fun i wx=>∃ k:Nat,k<=l.length/\i=.int .i64 k/\a3z (fun p:Ent × Value=>p.1.id==id) l 0=a3z (fun p:Ent × Value=>p.1.id==id) (l.drop k) k/\Below w.heap.size w wx) (fun i _=>l.length-(intOf i).toNat)
 case atStart=>exact⟨0,Nat.zero_le _,rfl,rfl,Below.refl _ _⟩
 case round =>
  obtain⟨k,hk,rfl,hu,hb⟩:=hrel;have HU:=a0b hu;have HB:=a0b hb
  by_cases hlt:k<l.length
  ·have hi:(k:Int)<(l.length:Int):=by omega
   obtain⟨H,cap',e1⟩:=Joins.ownsRow_form OWN.out (by omega);simp only[Value.slice.injEq,true_and] at e1;obtain⟨rfl,rfl⟩:=e1;have ownr:=a1g OWN.out hb;have a0:=(ownr.cellAt (k*6) (by omega)).trans (a3M hlt (j:=0) (by omega));have a1:=(ownr.cellAt (k*6+1) (by omega)).trans (a3M hlt (j:=1) (by omega));have a2:=(ownr.cellAt (k*6+2) (by omega)).trans (a3M hlt (j:=2) (by omega));have a3:=(ownr.cellAt (k*6+3) (by omega)).trans (a3M hlt (j:=3) (by omega));have a4:=(ownr.cellAt (k*6+4) (by omega)).trans (a3M hlt (j:=4) (by omega));have a5:=(ownr.cellAt (k*6+5) (by omega)).trans (a3M hlt (j:=5) (by omega));simp only[a1f,List.getElem?_cons_zero,List.getElem?_cons_succ] at a0 a1 a2 a3 a4 a5;obtain⟨sa,sn,sc,hsp⟩:=HS.out l[k] (zg hlt);rw[hsp] at a4;have D1:=a0b (b8q eb id l[k].1 sa sn sc wr (a0a hb CC.out));have ed:a3z (fun p:Ent × Value=>p.1.id==id) (l.drop k) k=if l[k].1.id==id then (k:Int) else a3z (fun p:Ent × Value=>p.1.id==id) (l.drop (k+1)) ((k+1:Nat):Int):=by rw[List.drop_eq_getElem_cons hlt];rfl
   have ED:=a0b ed;clear ed ownr hb hu hsp
   cases hq:(l[k].1.id==id)
   ·have HN:Hid (a3z (fun p:Ent × Value=>p.1.id==id) l 0=a3z (fun p:Ent × Value=>p.1.id==id) (l.drop (k+1)) ((k+1:Nat):Int)):=by show _=_;rw[HU.out,ED.out,hq];rfl
    rw[hq] at D1;clear hq;unfold a8k at D1
    go_wp2_with fail
    refine D1.out.mono ?_;rintro e w1 ⟨rfl,k1⟩;have HK:=a0b (a0j HB.out k1 (zq _));clear k1 a0 a1 a2 a3 a4 a5 D1
    go_wp2_with fail
    go_roundw
    case rel=>exact⟨k+1,by omega,by go_num,HN.out,HK.out⟩
    case measure=>simp[intOf];omega
   ·have HN:Hid (a3z (fun p:Ent × Value=>p.1.id==id) l 0=k):=by show _=_;rw[HU.out,ED.out,hq];rfl
    rw[hq] at D1;clear hq;unfold a8k at D1
    go_wp2_with fail
    refine D1.out.mono ?_;rintro e w1 ⟨rfl,k1⟩;have HK:=a0b (a0j HB.out k1 (zq _));clear k1 a0 a1 a2 a3 a4 a5 D1
    go_wp2_with fail
    go_ret;exact⟨a1L HN.out.symm,HK.out⟩
  ·have hke:k=l.length:=by omega
   have hi:¬ ((k:Int)<(l.length:Int)):=by omega
   have HN:Hid (a3z (fun p:Ent × Value=>p.1.id==id) l 0=-1):=by show _=_;rw[HU.out,hke,List.drop_length];rfl
   clear hu hb
   go_wp2_with fail
   go_ret;exact⟨a1L HN.out.symm,HB.out⟩
theorem a8q(l:List (Ent × Value))(v:Value)(B eb:Nat)(id:Int)(w:World)(own:w.ownsRow B 58 6 v l.length (l.flatMap a1f))(hs:∀ p∈l,∃ a n c,p.2=.slice a n c)(hc:w.cell? ⟨eb,0,none⟩=some (.int .i64 id))(hl:l.length<=1000):
  Calls Tryz.prog 208 #[v,.func (.func 209) #[.pointer (some ⟨eb,0,none⟩)] #[]] w fun e w'=>e=.returned (.bool (l.any (fun p:Ent × Value=>p.1.id==id)))/\Below w.heap.size w w':=by
 have HI:=a0b (b1T l v B eb id w own hs hc hl)
 have key:(decide ((0:Int)<=a3z (fun p:Ent × Value=>p.1.id==id) l 0))=l.any (fun p:Ent × Value=>p.1.id==id):=by
  rcases a7F (fun p:Ent × Value=>p.1.id==id) l 0 with ⟨h1,h2⟩|⟨k,h,h1,h2,_⟩
  ·rw[h1];have:l.any (fun p:Ent × Value=>p.1.id==id)=false:=List.any_eq_false.2 (fun x hx=>by rw[h2 x hx];simp);rw[this];rfl
  ·have:l.any (fun p:Ent × Value=>p.1.id==id)=true:=List.any_eq_true.2 ⟨_,List.getElem_mem h,h2⟩;rw[this,h1];exact decide_eq_true (by omega)
 have KEY:=a0b key;clear key own hs hc
 go_enter Tryz.func208,Tryz.ntmps208
 go_wp2_with fail
 refine HI.out.mono ?_;rintro e w1 ⟨rfl,k1⟩;have HK:=a0b k1;clear k1 HI;generalize a3z (fun p:Ent × Value=>p.1.id==id) l 0=z at *
 go_wp2_with fail
 go_ret;exact⟨by rw[KEY.out];rfl,HK.out⟩
structure c7f(w wx:World)(r:Rd.a0Y)(days:List Int)(k:Nat)(v:Value):Prop where
 own:wx.ownsRow w.heap.size 60 2 v k ((((days.take k).map (a4K r))).flatMap spV)
 bl:Below w.heap.size w wx
 ru:wx.heap[w.heap.size]?=some (a0u r)
 ne:v.ownBlock≠some w.heap.size
theorem c1E(r:Rd.a0Y)(hf:Rd.a6s r)(days:List Int)(hd:∀ d∈days,0<=d/\d<100000)(hl:days.length<=100)(v:Value)(B:Nat)(w:World)(own:w.ownsRow B 3 1 v days.length (days.map (Value.int .i64))):
  Calls Tryz.prog 148 #[a1S r,v] w fun e w'=>∃ v',e=.returned v'/\w'.ownsRow w.heap.size 60 2 v' days.length ((days.map (a4K r)).flatMap spV)/\Below w.heap.size w w':=by
 obtain⟨i0,hi0,hz0,hz1,hz2⟩:=info_parts b6Q;obtain⟨a,cap,rfl⟩:=a0B own;have hX:Below w.heap.size w (w.alloc (a0u r)):=(zr _ _).alloc (zq _) _;have hr:=a0p w (a0u r);have hs:(w.alloc (a0u r)).heap.size=w.heap.size+1:=by simp
 have HX:=a0b (zA hX (zA hr hs));have OW:=a0b own;have HD:=a0b (zA hd hf);clear own hX hr hd hf hs;unfold a1S
 go_enter Tryz.func148,Tryz.ntmps148
 go_upto_region 1 with fail
 change Code.wp _ _ _ _ (w.alloc (a0u r));generalize w.alloc (a0u r)=X at *
 go_wp2_with (first
  |(at_make;refine wpList_make_own _ rfl _ _ 56 rfl w.heap.size 60 i0 _ 2 Tryz.underlying56 hi0 hz0 hz1 .i64 .i64 (days.length:Int) days.length rfl rfl rfl (by rw[hz2];omega) (by unfold maxLen;omega) (by have:=HX.out.1.size;omega) ?_;intro w1 hown hgrow))
 have S0:Hid (c7f w w1 r days 0 (.slice (some ⟨X.heap.size,0,none⟩) 0 days.length)):=by
  obtain⟨x1,x2,x3⟩:=HX.out;refine⟨by simpa using hown,x1.grown hgrow x1.size (fun k e=>by cases e),(hgrow.block _ (by omega) (by simp)).trans x2,fun e=>?_⟩;have:X.heap.size=w.heap.size:=by simpa[Value.ownBlock] using e
  omega
 clear hown hgrow
 go_loopw [5,7,13] (fun vs _ vi wx=>∃ k:Nat,k<=days.length/\vi=.int .i64 k/\c7f w wx r days k vs) (fun _ _ vi _=>days.length-(intOf vi).toNat)
 case atStart=>exact⟨0,Nat.zero_le _,rfl,S0.out⟩
 case round =>
  obtain⟨k,hk,rfl,S⟩:=hrel
  by_cases hlt:k<days.length
  ·have hi0':(k:Int)<(days.length:Int):=by omega
   have row:=a1g OW.out S.bl;obtain⟨Hh,cap',e1⟩:=Joins.ownsRow_form row (by omega);simp only[Value.slice.injEq,true_and] at e1;obtain⟨rfl,rfl⟩:=e1;have a0:=row.cellAt k (by omega);rw[List.getElem?_map,List.getElem?_eq_getElem hlt,Option.map_some] at a0;have SO:=a0b (b0u r HD.out.2 days[k] (HD.out.1 _ (zg hlt)).1 (HD.out.1 _ (zg hlt)).2 wr);have x0:=a7u S.ru;have x1:=a3R S.ru;have x2:=a7t S.ru;have x3:=a7s S.ru;have x4:=a7r S.ru;have x5:=a7q S.ru;have x6:=a7p S.ru;have x7:=a7o S.ru;have x8:=a7n S.ru;have x9:=a4m S.ru;have x10:=a6E S.ru;have x11:=a6D S.ru;have x12:=a6C S.ru;have x13:=a6B S.ru;have HS:=a0b S;unfold a1S at SO;clear S row
   go_wp2_with fail
   refine SO.out.mono ?_;rintro e w2 ⟨rfl,hb2⟩;have RW:=a0b (a1g HS.out.own hb2);have HB:=a0b hb2;have hsz:w.heap.size<=w2.heap.size:=Nat.le_trans HS.out.bl.size hb2.size;clear hb2 SO a0 x0 x1 x2 x3 x4 x5 x6 x7 x8 x9 x10 x11 x12 x13
   go_wp2_with (first
    |(at_builtin;refine wpList_append_lies _ rfl _ _ 56 rfl w.heap.size 60 i0 _ 2 16 Tryz.underlying56 hi0 hz0 hz1 hz2 rfl (by decide) _ _ _ rfl (RW.out.alloc _) ⟨w2.heap.size,0,none⟩ 1 1 (spV (a4K r days[k])) rfl rfl (World.news_of_block (cs:=(spV (a4K r days[k])).toArray) (a0p w2 _)) (by simp[spV,Value.oneCell']) (by omega) (by unfold maxLen;omega) (by omega) (by simp;omega) (w2.heap.size+1) (by simp) ?_;intro g2 cap2 w3 hown hgrow hat hlt2))
   have ko:Off u5.ownBlock.toList w2 w3:=Off.grown ((Off.refl _ w2).alloc _) hgrow (fun k hk=>.inl (Option.mem_toList.2 hk));have hat':u5.ownBlock=some g2\/g2=w2.heap.size+1:=hat
   have HN:Hid (c7f w w3 r days (k+1) (.slice (some ⟨g2,0,none⟩) (k+1) cap2)):=by
    have S:=HS.out;have h2:Below w.heap.size w w2:=S.bl.trans (HB.out.mono S.bl.size)
    have hwl:w.heap.size<wr.heap.size:=by
     have:=a7u S.ru;exact World.block_lt_of_cell? _ _ this
    refine⟨?_,⟨ko.os.trans h2.os,ko.tape.trans h2.tape,ko.output.trans h2.output,Nat.le_trans h2.size ko.size,fun b hb=>(ko.block b (zL hb h2.size) (fun hx=>by have:=(S.own.lt b (Option.mem_toList.1 hx)).1;omega)).trans (h2.block b hb)⟩,?_,fun e=>?_⟩
    ·rw[List.take_succ_eq_append_getElem hlt,List.map_append,List.flatMap_append];have:([days[k]].map (a4K r)).flatMap spV=spV (a4K r days[k]):=by simp
     rw[this];exact hown
    ·exact ((ko.block _ (by have:=HB.out.size;omega) (fun hx=>S.ne (Option.mem_toList.1 hx))).trans (HB.out.block _ hwl)).trans S.ru
    ·have:g2=w.heap.size:=by simpa[Value.ownBlock] using e
     rcases hat' with e1|e1
     ·exact S.ne (by rw[e1,this])
     ·have:=HB.out.size;omega
   clear hown hgrow hat ko hat' HS RW HB
   go_wp2_with fail
   go_roundw
   case rel=>exact⟨k+1,by omega,by go_num,HN.out⟩
   case measure=>simp[intOf];omega
  ·have hke:k=days.length:=by omega
   have hi0':¬ ((k:Int)<(days.length:Int)):=by omega
   have HF:Hid (wr.ownsRow w.heap.size 60 2 u5 days.length ((days.map (a4K r)).flatMap spV)/\Below w.heap.size w wr):=by
    have o:=S.own;rw[hke,List.take_length] at o;exact⟨o,S.bl⟩
   clear S
   go_wp2_with fail
   go_ret;exact⟨_,rfl,HF.out⟩
end Go.Proofs.YtfigmlfdnickmaaGreatDoor
