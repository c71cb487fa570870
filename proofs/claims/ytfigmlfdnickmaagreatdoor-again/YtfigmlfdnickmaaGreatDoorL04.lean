import Derived.Test.YtfigmlfdnickmaaGreatDoorL03
import Derived.Lib.SmallJoins
import Derived.OwnWalk
import Derived.Deep.AppendLies
import Derived.Deep.CutRange
import Derived.Deep.RegionLaw
import Derived.Maps.OwnSet
import Derived.Maps.OwnOps
import Derived.Maps.Views
set_option maxRecDepth 100000
set_option maxHeartbeats 8000000
variable{s:ByteArray}{G:List Nat}{xs:List Go.Value}{H b cap d i j n o p q sz:Nat}{key v:Go.Value}{w w' w1 w2:Go.World}
namespace Go.Proofs.YtfigmlfdnickmaaGreatDoor
open Go.RowKit
def a9Z(x:Hp.Hi):List Value:=[.int .i64 x.t,.int .i64 x.n,.pointer (some ⟨x.v,0,none⟩)]
theorem a6R(l:List Hp.Hi):(l.flatMap a9Z).length=l.length*3:=by
 induction l with
 |nil=>rfl
 |cons x l ih=>simp only[List.flatMap_cons,List.length_append,List.length_cons,ih,a9Z,List.length_nil];omega
theorem a6i{l:List Hp.Hi}(h:i<l.length):l=l.take i++l[i] :: l.drop (i+1):=by rw[List.getElem_cons_drop,List.take_append_drop]
theorem a5H{l:List Hp.Hi}(h:i<l.length)(hj:j<3):(l.flatMap a9Z)[i*3+j]?=(a9Z l[i])[j]?:=by
 conv=>lhs;rw[a6i h,List.flatMap_append,List.flatMap_cons]
 have hlen:((l.take i).flatMap a9Z).length=i*3:=by rw[a6R,List.length_take_of_le (by omega)]
 rw[List.getElem?_append_right (by omega),hlen,Nat.add_sub_cancel_left,List.getElem?_append_left (by simp[a9Z];omega)]
theorem c0M{l:List Hp.Hi}(h:i<l.length)(x:Hp.Hi):(((l.flatMap a9Z).set (i*3) (.int .i64 x.t)).set (i*3+1) (.int .i64 x.n)).set (i*3+2) (.pointer (some ⟨x.v,0,none⟩))=(l.set i x).flatMap a9Z:=by
 have hlen:((l.take i).flatMap a9Z).length=i*3:=by rw[a6R,List.length_take_of_le (by omega)]
 conv=>lhs;rw[a6i h,List.flatMap_append,List.flatMap_cons]
 rw[List.set_append_right _ _ (by omega),List.set_append_right _ _ (by omega),List.set_append_right _ _ (by omega),hlen];rw[show i*3-i*3=0 from by omega,show i*3+1-i*3=1 from by omega,show i*3+2-i*3=2 from by omega]
 conv=>rhs;rw[List.set_eq_take_append_cons_drop,if_pos h,List.flatMap_append,List.flatMap_cons]
 simp[a9Z]
structure HP(w:World)(d o:Nat)(v:Value)(l:List Hp.Hi):Prop where
 c:w.cell? ⟨d,o,none⟩=some v
 own:w.ownsRow 0 286 3 v l.length (l.flatMap a9Z)
 ne:v.ownBlock≠some d
 fz:w.frozen? ⟨d,o,none⟩=false
theorem HP.form{l:List Hp.Hi}(h:HP w d o v l)(hl:0<l.length):∃ H cap,v=.slice (some ⟨H,0,none⟩) l.length cap:=by
 obtain⟨H,cap,e⟩:=Joins.ownsRow_form h.own hl;exact⟨H,cap,e⟩
theorem HP.at{l:List Hp.Hi}(h:HP w d o (.slice (some ⟨H,0,none⟩) l.length cap) l)(hi:i<l.length):w.cell? ⟨H,i*3,none⟩=some (.int .i64 (Hp.at_ l i).t)/\w.cell? ⟨H,i*3+1,none⟩=some (.int .i64 (Hp.at_ l i).n)/\w.cell? ⟨H,i*3+2,none⟩=some (.pointer (some ⟨(Hp.at_ l i).v,0,none⟩)):=by
 rw[Hp.a4H hi];refine⟨?_,?_,?_⟩
 ·exact (h.own.cellAt (i*3) (by omega)).trans (a5H hi (j:=0) (by omega))
 ·exact (h.own.cellAt (i*3+1) (by omega)).trans (a5H hi (j:=1) (by omega))
 ·exact (h.own.cellAt (i*3+2) (by omega)).trans (a5H hi (j:=2) (by omega))
theorem HP.off{l:List Hp.Hi}(h:HP w d o v l)(k:Off G w w')(h1:d ∉ G)(h2:∀ b,v.ownBlock=some b->b ∉ G):HP w' d o v l:=by
 refine⟨k.cell h1 h.c,⟨h.own.1,?_⟩,h.ne,(k.frozen h1 (zb _ _ h.c)).trans h.fz⟩;rcases h.own.2 with h0|⟨g,cap,cur,hv,hb,hh,rest⟩
 ·exact .inl h0
 ·refine .inr ⟨g,cap,cur,hv,hb,?_,rest⟩
  have hlt:g<w.heap.size:=by
   by_cases hx:g<w.heap.size
   ·exact hx
   ·rw[Array.getElem?_eq_none (by omega)] at hh;cases hh
  rw[k.block g hlt (h2 g (by rw[hv];rfl))];exact hh
theorem HP.later{l:List Hp.Hi}(h:HP w d o v l)(k:Below w.heap.size w w'):HP w' d o v l:=h.off (G:=[]) (Off.of_below k) (by simp) (by simp)
theorem HP.put{l:List Hp.Hi}(h:HP w d o (.slice (some ⟨H,0,none⟩) l.length cap) l)(hi:i<l.length)(x:Hp.Hi):HP (((w.setCell ⟨H,i*3,none⟩ (.int .i64 x.t)).setCell ⟨H,i*3+1,none⟩ (.int .i64 x.n)).setCell ⟨H,i*3+2,none⟩ (.pointer (some ⟨x.v,0,none⟩))) d o (.slice (some ⟨H,0,none⟩) (l.set i x).length cap) (l.set i x):=by
 have hne:d≠H:=fun e=>h.ne (by rw[e];rfl)
 have k:Off [H] w (((w.setCell ⟨H,i*3,none⟩ (.int .i64 x.t)).setCell ⟨H,i*3+1,none⟩ (.int .i64 x.n)).setCell ⟨H,i*3+2,none⟩ (.pointer (some ⟨x.v,0,none⟩))) :=
  (((Off.refl [H] w).setCell (.inl (by simp)) _ _).setCell (.inl (by simp)) _ _).setCell (.inl (by simp)) _ _
 refine⟨?_,?_,h.ne,?_⟩
 ·rw[List.length_set];exact k.cell (by simpa using hne) h.c
 ·rw[List.length_set,<- c0M hi x];exact ((((h.own.stored (i*3) (.int .i64 x.t)).1).stored (i*3+1) (.int .i64 x.n)).1.stored (i*3+2) (.pointer (some ⟨x.v,0,none⟩))).1
 ·exact (k.frozen (by simpa using hne) (zb _ _ h.c)).trans h.fz
theorem a5u(w:World)(H i j m:Nat)(a b c:Value):Off [H] w (((w.setCell ⟨H,i,none⟩ a).setCell ⟨H,j,none⟩ b).setCell ⟨H,m,none⟩ c) :=
 (((Off.refl [H] w).setCell (.inl (by simp)) _ _).setCell (.inl (by simp)) _ _).setCell (.inl (by simp)) _ _
theorem HP.swapped{l:List Hp.Hi}(h:HP w d o (.slice (some ⟨H,0,none⟩) l.length cap) l)(hi:i<l.length)(hj:j<l.length){x y:Hp.Hi}(hx:Hp.at_ l i=x)(hy:Hp.at_ l j=y):
  HP ((((((w.setCell ⟨H,i*3,none⟩ (.int .i64 y.t)).setCell ⟨H,i*3+1,none⟩ (.int .i64 y.n)).setCell ⟨H,i*3+2,none⟩ (.pointer (some ⟨y.v,0,none⟩))).setCell ⟨H,j*3,none⟩ (.int .i64 x.t)).setCell ⟨H,j*3+1,none⟩ (.int .i64 x.n)).setCell ⟨H,j*3+2,none⟩ (.pointer (some ⟨x.v,0,none⟩))) d o (.slice (some ⟨H,0,none⟩) l.length cap) (Hp.swap l i j)
  /\ Off [H] w ((((((w.setCell ⟨H,i*3,none⟩ (.int .i64 y.t)).setCell ⟨H,i*3+1,none⟩ (.int .i64 y.n)).setCell ⟨H,i*3+2,none⟩ (.pointer (some ⟨y.v,0,none⟩))).setCell ⟨H,j*3,none⟩ (.int .i64 x.t)).setCell ⟨H,j*3+1,none⟩ (.int .i64 x.n)).setCell ⟨H,j*3+2,none⟩ (.pointer (some ⟨x.v,0,none⟩))):=by
 refine⟨?_,(a5u _ _ _ _ _ _ _ _).trans (a5u _ _ _ _ _ _ _ _)⟩;have a:=(h.put hi y).put (i:=j) (by simpa using hj) x;subst hx hy;have e:((l.set i (Hp.at_ l j)).set j (Hp.at_ l i)).length=l.length:=by simp
 rw[e] at a;exact a
def a8y(x:Hp.Hi)(t n:Int):Int:=orI (b5t x.t t) (b5t x.n n)
theorem c5f(x y:Hp.Hi):a8y x y.t y.n<0↔Hp.ahead x y:=by
 unfold a8y orI b5t Hp.ahead
 split <;> split <;> (repeat split) <;> omega
theorem b3w(x:Hp.Hi)(t n:Int):a8y x t n=0↔x.t=t/\x.n=n:=by
 unfold a8y orI b5t
 split <;> split <;> (repeat split) <;> omega
theorem a8e(x:Hp.Hi)(t n:Int)(w:World):
  Calls Tryz.prog 203 #[.agg #[.int .i64 x.t,.int .i64 x.n,.pointer (some ⟨x.v,0,none⟩)],.int .i64 t,.int .i64 n] w fun e w'=>e=.returned (.int .i64 (a8y x t n))/\Below w.heap.size w w':=by
 unfold a8y;have HP:=a0b (fun w'=>a4C x.t t w');have HQ:=a0b (fun w'=>a4C x.n n w');generalize b5t x.t t=p at *;generalize b5t x.n n=q at *
 go_enter Tryz.func203,Tryz.ntmps203
 have hX:Below w.heap.size w (w.alloc (.cells #[.int .i64 x.t,.int .i64 x.n,.pointer (some ⟨x.v,0,none⟩)] 286)):=(zr _ _).alloc (zq _) _;have x0:(w.alloc (.cells #[.int .i64 x.t,.int .i64 x.n,.pointer (some ⟨x.v,0,none⟩)] 286)).cell? ⟨w.heap.size,0,none⟩=some (.int .i64 x.t):=by simp
 have x1:(w.alloc (.cells #[.int .i64 x.t,.int .i64 x.n,.pointer (some ⟨x.v,0,none⟩)] 286)).cell? ⟨w.heap.size,1,none⟩=some (.int .i64 x.n):=by simp
 go_upto_region 1 with fail
 generalize (World.alloc w (.cells #[.int .i64 x.t,.int .i64 x.n,.pointer (some ⟨x.v,0,none⟩)] 286))=X at x0 x1 hX ⊢;generalize hbe:w.heap.size=b at x0 x1 hX ⊢;have HB:=a0b hbe;clear hbe
 go_region_held3 (fun w'=>w'.cell? ⟨b,0,none⟩=some (.int .i64 x.t)/\w'.cell? ⟨b,1,none⟩=some (.int .i64 x.n)/\Below b w w')
  (first
   |exact⟨x0,x1,hX.drew⟩
   |(go_split_ands;refine⟨?_,?_,?_⟩ <;> assumption)
   |(go_split_ands;exact⟨a0a ((zr _ _).alloc (zq _) _) (by assumption),a0a ((zr _ _).alloc (zq _) _) (by assumption),a0j (by assumption) ((zr _ _).alloc (zq _) _) (by rw[HB.out];exact zq _)⟩))
  (first
   |(go_at_call_of 251 (Value.int .i64 t);refine (HP.out _).mono ?_;rintro e w' ⟨rfl,rfl⟩)
   |(go_at_call_of 251 (Value.int .i64 n);refine (HQ.out _).mono ?_;rintro e w' ⟨rfl,rfl⟩)
   |(go_at_call 250;refine (c4n _ p q _ (by simp) (by simp)).mono ?_;rintro e w' ⟨rfl,rfl⟩))
 all_goals
  have HF:Hid (Below w.heap.size w (World.drew (World.alloc X (.cells #[.int .i64 p,.int .i64 q] 3)))):=by
   have h:=a0j hX ((zr X.heap.size X).alloc (zq _) (.cells #[.int .i64 p,.int .i64 q] 3)) (by rw[HB.out];exact zq _);rw[HB.out];exact h.drew
  go_wp2_with fail
  go_ret;exact⟨rfl,HF.out⟩
def b1h(x y:Hp.Hi):Bool:=decide (a8y x y.t y.n<0)
theorem a7Q{x y:Hp.Hi}:b1h x y=true↔Hp.ahead x y:=by unfold b1h;rw[decide_eq_true_iff,c5f]
theorem b1g{x y:Hp.Hi}:b1h x y=false↔¬ Hp.ahead x y:=by rw[<- a7Q];simp
def c6P(l:List Hp.Hi):Int:=if l.length=0 then 0 else (Hp.at_ l 0).t
def c5M(l:List Hp.Hi):Bool:=!(l.length==0)
theorem b1V{l:List Hp.Hi}(h:0<l.length):c6P l=(Hp.at_ l 0).t:=by rw[c6P,if_neg (by omega)]
theorem b1W{l:List Hp.Hi}(h:0<l.length):c5M l=true:=by unfold c5M;simp;intro e;simp[e] at h
theorem b0P(d o:Nat)(v:Value)(l:List Hp.Hi)(w:World)(h:HP w d o v l):
  Calls Tryz.prog 155 #[.pointer (some ⟨d,o,none⟩)] w fun e w'=>e=.returned (.tuple #[.int .i64 (c6P l),.bool (c5M l)])/\w'=w:=by
 have c:=h.c
 by_cases hl:l=[]
 ·subst hl
  have hv:∃ a cap,v=.slice a 0 cap:=by
   rcases h.own.2 with ⟨rfl,_⟩|⟨g,cap,_,rfl,_⟩
   ·exact⟨_,_,rfl⟩
   ·exact⟨_,_,rfl⟩
  obtain⟨a,cap,rfl⟩:=hv;clear h
  go_enter Tryz.func155,Tryz.ntmps155
  go_wp2_with fail
  go_ret2;exact⟨rfl,rfl⟩
 ·have hp:0<l.length:=List.length_pos_iff.2 hl;obtain⟨H,cap,rfl⟩:=h.form hp;have c0:=(h.at hp).1;simp only[Nat.zero_mul] at c0;have hi:¬ ((l.length:Int)=0):=by omega
  have E:=a0b (zA (b1V hp) (b1W hp));clear h
  go_enter Tryz.func155,Tryz.ntmps155
  go_wp2_with fail
  go_ret2;exact⟨by rw[E.out.1,E.out.2];rfl,rfl⟩
theorem a9n(d o:Nat)(v:Value)(l:List Hp.Hi)(i j:Nat)(w:World)(h:HP w d o v l)(hi:i<l.length)(hj:j<l.length)(hl:l.length<=1000):
  Calls Tryz.prog 274 #[.pointer (some ⟨d,o,none⟩),.int .i64 i,.int .i64 j] w fun e w'=>e=.returned (.bool (b1h (Hp.at_ l i) (Hp.at_ l j)))/\Below w.heap.size w w':=by
 obtain⟨H,cap,rfl⟩:=h.form (by omega);have c:=h.c;obtain⟨a0,a1,a2⟩:=h.at hi;obtain⟨b0,b1,b2⟩:=h.at hj;have CM:=a0b (fun w'=>a8e (Hp.at_ l i) (Hp.at_ l j).t (Hp.at_ l j).n w');have i1:(i:Int)<(l.length:Int):=by omega
 have j1:(j:Int)<(l.length:Int):=by omega
 clear h;generalize Hp.at_ l i=x at *;generalize Hp.at_ l j=y at *
 go_enter Tryz.func274,Tryz.ntmps274
 go_upto_region 1 with fail
 go_region_held3 (fun w'=>w'.cell? ⟨d,o,none⟩=some (.slice (some ⟨H,0,none⟩) l.length cap)/\w'.cell? ⟨H,i*3,none⟩=some (.int .i64 x.t)/\w'.cell? ⟨H,i*3+1,none⟩=some (.int .i64 x.n)/\w'.cell? ⟨H,i*3+2,none⟩=some (.pointer (some ⟨x.v,0,none⟩))/\w'.cell? ⟨H,j*3,none⟩=some (.int .i64 y.t)/\w'.cell? ⟨H,j*3+1,none⟩=some (.int .i64 y.n))
  (first
   |exact⟨c,a0,a1,a2,b0,b1⟩
   |exact⟨a0a k1 c,a0a k1 a0,a0a k1 a1,a0a k1 a2,a0a k1 b0,a0a k1 b1⟩)
  (first
   |(go_at_call 203;refine (CM.out _).mono ?_;rintro e w4 ⟨rfl,k1⟩))
 have HK:Hid (Below w.heap.size w w4):=a0j (a0q w) k1 (zq _);clear k1
 go_wp2_with fail
 go_ret;exact⟨rfl,HK.out⟩
theorem a9q(d o H cap:Nat)(l:List Hp.Hi)(i j:Nat)(w:World)(h:HP w d o (.slice (some ⟨H,0,none⟩) l.length cap) l)(hi:i<l.length)(hj:j<l.length)(hij:i≠j):
  Calls Tryz.prog 275 #[.pointer (some ⟨d,o,none⟩),.int .i64 i,.int .i64 j] w fun e w'=>e=.returned (.tuple #[])/\HP w' d o (.slice (some ⟨H,0,none⟩) l.length cap) (Hp.swap l i j)/\Off [H] w w':=by
 have c:=h.c;obtain⟨a0,a1,a2⟩:=h.at hi;obtain⟨b0,b1,b2⟩:=h.at hj;have fz:∀ k,w.frozen? ⟨H,k,none⟩=false:=fun k=>h.own.frozenAt k
 have i1:(i:Int)<(l.length:Int):=by omega
 have j1:(j:Int)<(l.length:Int):=by omega
 have HS:=a0b (h.swapped hi hj rfl rfl);clear h;generalize Hp.at_ l i=x at *;generalize Hp.at_ l j=y at *
 go_enter Tryz.func275,Tryz.ntmps275
 go_upto_region 0 with fail
 go_big_region
 go_end0
 exact⟨rfl,HS.out.1.off (G:=[]) ((Off.refl _ _).drew) (by simp) (by simp),HS.out.2.drew⟩
structure a3b(w wx:World)(d o H n cap:Nat)(l l':List Hp.Hi):Prop where
 hp:HP wx d o (.slice (some ⟨H,0,none⟩) n cap) l'
 len:l'.length=n
 perm:l'.Perm l
 off:Off [H] w wx
theorem a3b.new{l:List Hp.Hi}(h:HP w d o (.slice (some ⟨H,0,none⟩) l.length cap) l):a3b w w d o H l.length cap l l:=⟨h,rfl,.refl _,Off.refl _ _⟩
theorem a3b.later{wx wy:World}{l l':List Hp.Hi}(h:a3b w wx d o H n cap l l')(k:Below wx.heap.size wx wy):a3b w wy d o H n cap l l' :=
 ⟨h.hp.later k,h.len,h.perm,h.off.trans' (Off.of_below (F:=[]) k) (by simp)⟩
theorem b6g(d o H cap:Nat)(l:List Hp.Hi)(p:Nat)(w:World)(h:HP w d o (.slice (some ⟨H,0,none⟩) l.length cap) l)(hp:p<l.length)(hr:Hp.a3T l p)(hl:l.length<=1000):
  Calls Tryz.prog 248 #[.pointer (some ⟨d,o,none⟩),.int .i64 p] w fun e w'=>e=.returned (.tuple #[])/\∃ l',a3b w w' d o H l.length cap l l'/\Hp.a6r l':=by
 have T0:=a0b (a3b.new h);have R0:=a0b hr;clear h hr
 go_enter Tryz.func248,Tryz.ntmps248
 go_wp2_with fail
 go_loopw [1] (fun v wx=>∃ (q:Nat) (l':List Hp.Hi),v=.int .i64 q/\q<l.length/\Hp.a3T l' q/\a3b w wx d o H l.length cap l l') (fun v _=>(intOf v).toNat)
 case atStart=>exact⟨p,l,rfl,hp,R0.out,T0.out⟩
 case round =>
  obtain⟨q,l',rfl,hq,hr,ht⟩:=hrel
  by_cases h0:0<q
  ·have i0:(0:Int)<(q:Int):=by omega
   have HT:=a0b ht;have HR:=a0b hr
   have ea:((((q:Int)-1).tdiv 2))=((Hp.par q:Nat):Int):=by
    unfold Hp.par;rw[Int.tdiv_eq_ediv_of_nonneg (by omega)];omega
   have ew:IntKind.i64.wrap ((q:Int)-1)=(q:Int)-1:=a0i (by omega) (by omega);have hpq:Hp.par q<q:=by unfold Hp.par;omega
   have AH:=a0b (fun wy (k:Below wr.heap.size wr wy)=>a9n d o _ l' q (Hp.par q) wy (ht.hp.later k) (by rw[ht.len];omega) (by rw[ht.len];omega) (by rw[ht.len];omega));clear hr ht
   go_wp2_with fail
   refine (AH.out _ (zr _ _)).mono ?_;rintro e w4 ⟨rfl,k1⟩;have HT4:=a0b (HT.out.later k1);clear AH HT k1
   cases hb:b1h (Hp.at_ l' q) (Hp.at_ l' (Hp.par q))
   ·have HF:=a0b (zA HT4.out (HR.out.done (.inr (b1g.1 hb))));clear HT4 HR
    go_wp2_with fail
    (try simp only[Exit.inBlock,Exit.then]);refine bodyPost_ret (results_none rfl _ _ _) rfl ?_
    exact⟨rfl,l',HF.out⟩
   ·have hlen:=HT4.out.len;have SW:=a0b (a9q d o H cap l' q (Hp.par q) w4 (by rw[hlen];exact HT4.out.hp) (by omega) (by omega) (by omega));have HS:=a0b (HR.out.step (by omega) h0 (a7Q.1 hb));have HL:=a0b hlen;clear HR hlen
    go_wp2_with fail
    refine SW.out.mono ?_;rintro e w5 ⟨rfl,k2,k3⟩
    have HN:Hid (a3b w w5 d o H l.length cap l (Hp.swap l' q (Hp.par q))) :=
     ⟨by rw[<- HL.out];exact k2,Hp.a3G.trans HL.out,(Hp.a6x (by rw[HL.out];omega) (by rw[HL.out];omega)).trans HT4.out.perm,HT4.out.off.trans k3⟩
    clear k2 k3 SW HT4
    go_wp2_with fail
    go_roundw
    case rel=>exact⟨Hp.par q,_,rfl,by omega,HS.out,HN.out⟩
    case measure=>simp[intOf];omega
  ·have e0:q=0:=by omega
   subst e0;have HF:=a0b (zA ht (hr.done (.inl rfl)));clear hr ht
   go_wp2_with fail
   go_end0
   exact⟨rfl,l',HF.out⟩
structure a4I(l:List Hp.Hi)(q f b:Nat):Prop where
 b0:2*q+1<=b
 b1:b<=2*q+3
 f1:f<l.length
 ff:f=q\/(2*q+1<=f/\f<b/\Hp.ahead (Hp.at_ l f) (Hp.at_ l q))
 no:∀ i,2*q+1<=i->i<b->i<l.length->¬ Hp.ahead (Hp.at_ l i) (Hp.at_ l f)
theorem a4I.new{l:List Hp.Hi}(h:q<l.length):a4I l q q (2*q+1):=⟨by omega,by omega,h,.inl rfl,fun i h1 h2 _=>by omega⟩
theorem a4I.notS{l:List Hp.Hi}{f:Nat}(h:a4I l q f b)(hb:b<=2*q+2)(k:¬ Hp.ahead (Hp.at_ l b) (Hp.at_ l f)):a4I l q f (b+1):=by
 refine⟨by have:=h.b0;omega,by omega,h.f1,?_,fun i h1 h2 h3=>?_⟩
 ·rcases h.ff with e|⟨e1,e2,e3⟩
  ·exact .inl e
  ·exact .inr ⟨e1,by omega,e3⟩
 ·by_cases e:i=b
  ·subst e;exact k
  ·exact h.no i h1 (by omega) h3
theorem a4I.yes{l:List Hp.Hi}{f:Nat}(h:a4I l q f b)(hb:b<=2*q+2)(hl:b<l.length)(k:Hp.ahead (Hp.at_ l b) (Hp.at_ l f)):a4I l q b (b+1):=by
 have h0:=h.b0;refine⟨by omega,by omega,hl,.inr ⟨by omega,by omega,?_⟩,fun i h1 h2 h3=>?_⟩
 ·rcases h.ff with e|⟨e1,e2,e3⟩
  ·rw[<- e];exact k
  ·unfold Hp.ahead at *;omega
 ·by_cases e:i=b
  ·subst e;exact Hp.b6B _
  ·have:=h.no i h1 (by omega) h3;unfold Hp.ahead at *;omega
theorem a4I.all{l:List Hp.Hi}{f:Nat}(h:a4I l q f b)(hb:¬ b<=2*q+2\/¬ b<l.length):∀ i,0<i->i<l.length->Hp.par i=q->¬ Hp.ahead (Hp.at_ l i) (Hp.at_ l f):=by
 intro i h0 h1 h2;have:=h.b0;unfold Hp.par at h2;exact h.no i (by omega) (by omega) h1
theorem c2m(d o H cap:Nat)(l:List Hp.Hi)(p:Nat)(w:World)(h:HP w d o (.slice (some ⟨H,0,none⟩) l.length cap) l)(hp:p<l.length)(hr:Hp.a5l l p p)(hl:l.length<=1000):
  Calls Tryz.prog 252 #[.pointer (some ⟨d,o,none⟩),.int .i64 p] w fun e w'=>e=.returned (.tuple #[])/\∃ l',a3b w w' d o H l.length cap l l'/\Hp.a3T l' p:=by
 have T0:=a0b (a3b.new h);have R0:=a0b hr;clear h hr
 go_enter Tryz.func252,Tryz.ntmps252
 go_wp2_with fail
 go_loopw [1] (fun v wx=>∃ (q:Nat) (l':List Hp.Hi),v=.int .i64 q/\q<l.length/\Hp.a5l l' p q/\a3b w wx d o H l.length cap l l') (fun v _=>l.length-(intOf v).toNat)
 case atStart=>exact⟨p,l,rfl,hp,R0.out,T0.out⟩
 case round =>
  obtain⟨q,l',rfl,hq,hr,ht⟩:=hrel;have HT:=a0b ht;have HR:=a0b hr;clear hr ht;have w1:IntKind.i64.wrap (2*(q:Int))=2*(q:Int):=a0i (by omega) (by omega);have w2:IntKind.i64.wrap (2*(q:Int)+1)=2*(q:Int)+1:=a0i (by omega) (by omega);have w3:IntKind.i64.wrap (2*(q:Int)+2)=2*(q:Int)+2:=a0i (by omega) (by omega)
  go_wp2_with fail
  go_loopw [4,5] (fun vf vb wx=>∃ f b:Nat,vf=.int .i64 f/\vb=.int .i64 b/\a4I l' q f b/\a3b w wx d o H l.length cap l l') (fun _ vb _=>2*q+3-(intOf vb).toNat)
  case atStart=>exact⟨q,2*q+1,rfl,by simp,a4I.new (by rw[HT.out.len];exact hq),HT.out⟩
  case round =>
   obtain⟨f,b,rfl,rfl,hs,ht⟩:=hrel;have hlen:=ht.len;have hc:=ht.hp.c
   by_cases hb1:b<=2*q+2
   ·have b1:(b:Int)<=2*(q:Int)+2:=by omega
    by_cases hb2:b<l.length
    ·have b2:(b:Int)<(l.length:Int):=by omega
     have fb:=hs.f1;have AH:=a0b (a9n d o _ l' b f wr ht.hp (by omega) (by omega) (by omega));have HT2:=a0b ht;have HS:=a0b hs;have hw:IntKind.i64.wrap ((b:Int)+1)=((b+1:Nat):Int):=by rw[a0i (by omega) (by omega)];omega
     clear ht hs
     go_wp2_with fail
     refine AH.out.mono ?_;rintro e w4 ⟨rfl,k1⟩;have HT4:=a0b (HT2.out.later k1);clear AH HT2 k1
     cases hb:b1h (Hp.at_ l' b) (Hp.at_ l' f)
     ·have HN:=a0b (HS.out.notS hb1 (b1g.1 hb));clear HS
      go_wp2_with fail
      go_roundw
      case rel=>exact⟨f,b+1,rfl,rfl,HN.out,HT4.out⟩
      case measure=>simp[intOf];omega
     ·have HN:=a0b (HS.out.yes hb1 (by omega) (a7Q.1 hb));clear HS
      go_wp2_with fail
      go_roundw
      case rel=>exact⟨b,b+1,rfl,rfl,HN.out,HT4.out⟩
      case measure=>simp[intOf];omega
    ·have b2:¬ ((b:Int)<(l.length:Int)):=by omega
     have HALL:=a0b (hs.all (by omega));have hff:=hs.ff;have hf1:=hs.f1;have hqp:=HR.out.qp;have HT2:=a0b ht;have HL:=a0b hlen
     by_cases hfq:f=q
     ·subst hfq;have HF:=a0b (zA ht (HR.out.done (by omega) HALL.out));clear ht hs HALL hff hf1 HT2 HT HR HL hlen
      go_wp2_with fail
      (try simp only[Exit.inBlock,Exit.then]);refine bodyPost_ret (results_none rfl _ _ _) rfl ?_
      exact⟨rfl,l',HF.out⟩
     ·have hfq':¬ ((f:Int)=(q:Int)):=by omega
      have hf2:2*q+1<=f:=by omega
      have SW:=a0b (a9q d o H cap l' q f wr (by rw[hlen];exact ht.hp) (by omega) (by omega) (by omega));have hah:Hp.ahead (Hp.at_ l' f) (Hp.at_ l' q):=by rcases hff with e|e;exact absurd e hfq;exact e.2.2
      have HS:=a0b (HR.out.step (c:=f) (by omega) hf1 (by unfold Hp.par;have:=hs.ff;have:=hs.b1;omega) hah HALL.out);clear ht hs HALL hff hah hlen
      go_wp2_with fail
      refine SW.out.mono ?_;rintro e w5 ⟨rfl,k2,k3⟩
      have HN:Hid (a3b w w5 d o H l.length cap l (Hp.swap l' q f)) :=
       ⟨by rw[<- HL.out];exact k2,Hp.a3G.trans HL.out,(Hp.a6x (by rw[HL.out];omega) hf1).trans HT2.out.perm,HT2.out.off.trans k3⟩
      clear k2 k3 SW HT2 HT
      go_wp2_with fail
      go_roundw
      case rel=>exact⟨f,_,rfl,by rw[<- HL.out];exact hf1,HS.out,HN.out⟩
      case measure=>have:=HL.out;simp[intOf];omega
   ·have b1:¬ ((b:Int)<=2*(q:Int)+2):=by omega
    have HALL:=a0b (hs.all (by omega));have hff:=hs.ff;have hf1:=hs.f1;have hqp:=HR.out.qp;have HT2:=a0b ht;have HL:=a0b hlen
    by_cases hfq:f=q
    ·subst hfq;have HF:=a0b (zA ht (HR.out.done (by omega) HALL.out));clear ht hs HALL hff hf1 HT2 HT HR HL hlen
     go_wp2_with fail
     (try simp only[Exit.inBlock,Exit.then]);refine bodyPost_ret (results_none rfl _ _ _) rfl ?_
     exact⟨rfl,l',HF.out⟩
    ·have hfq':¬ ((f:Int)=(q:Int)):=by omega
     have hf2:2*q+1<=f:=by omega
     have SW:=a0b (a9q d o H cap l' q f wr (by rw[hlen];exact ht.hp) (by omega) (by omega) (by omega));have hah:Hp.ahead (Hp.at_ l' f) (Hp.at_ l' q):=by rcases hff with e|e;exact absurd e hfq;exact e.2.2
     have HS:=a0b (HR.out.step (c:=f) (by omega) hf1 (by unfold Hp.par;have:=hs.ff;have:=hs.b1;omega) hah HALL.out);clear ht hs HALL hff hah hlen
     go_wp2_with fail
     refine SW.out.mono ?_;rintro e w5 ⟨rfl,k2,k3⟩
     have HN:Hid (a3b w w5 d o H l.length cap l (Hp.swap l' q f)) :=
      ⟨by rw[<- HL.out];exact k2,Hp.a3G.trans HL.out,(Hp.a6x (by rw[HL.out];omega) hf1).trans HT2.out.perm,HT2.out.off.trans k3⟩
     clear k2 k3 SW HT2 HT
     go_wp2_with fail
     go_roundw
     case rel=>exact⟨f,_,rfl,by rw[<- HL.out];exact hf1,HS.out,HN.out⟩
     case measure=>have:=HL.out;simp[intOf];omega
namespace Desk
structure Ent where
 id:Int
 kind:Int
 a0k:ByteArray
 a0c:Int
 a0e:List (Int × Int)
 a0Z:Int
def hasB(t:Int)(s:Int × Int):Bool:=decide (s.1<=t) && decide (t<s.2)
def a0r(L:List (Int × Int))(t:Int):Int:=((L.filter (hasB t)).length:Int)
def a0y(a b:ByteArray):Bool:=a.toList==b.toList
def ofB(name:ByteArray)(e:Ent):Bool:=a0y e.a0k name && (e.kind != 3)
def a0o(name:ByteArray)(t:Int):List Ent->Int
 |[]=>0
 |e :: r=>(if ofB name e then a0r e.a0e t*e.a0c else 0)+a0o name t r
def a2L(name:ByteArray):List Ent->List Int
 |[]=>[]
 |e :: r=>(if a0y e.a0k name then e.a0e.map (·.1) else [])++a2L name r
theorem a4Q(L:List (Int × Int))(t:Int):0<=a0r L t/\a0r L t<=L.length:=by
 unfold a0r;have:=List.length_filter_le (hasB t) L;omega
theorem a2z(name:ByteArray)(t:Int)(l r:List Ent):a0o name t (l++r)=a0o name t l+a0o name t r:=by
 induction l with
 |nil=>simp[a0o]
 |cons e l ih=>simp only[List.cons_append,a0o,ih];omega
structure Small(e:Ent):Prop where
 u0:0<=e.a0c
 u1:e.a0c<=9
 sl:e.a0e.length<=100
end Desk
theorem b1S:(Tryz.prog.info? 3).map (fun i=>(i.zero,i.size,i.bytes))=some (some (.int .i64 0),1,8):=by kernel_rfl
theorem a1g{base e size:Nat}(h:w.ownsRow base e size v n xs)(hb:Below w.heap.size w w'):w'.ownsRow base e size v n xs:=by
 refine⟨h.1,?_⟩;rcases h.2 with h0|⟨g,cap,cur,hv,hg,hh,rest⟩
 ·exact .inl h0
 ·refine .inr ⟨g,cap,cur,hv,hg,?_,rest⟩
  have hlt:g<w.heap.size:=by
   by_cases hx:g<w.heap.size
   ·exact hx
   ·rw[Array.getElem?_eq_none (by omega)] at hh;cases hh
  rw[hb.block g hlt];exact hh
theorem a0p(w:World)(o:Obj):(w.alloc o).heap[w.heap.size]?=some o:=heap_alloc_new w o
namespace Desk
def a0h(name:ByteArray):List (ByteArray × Int)->Int
 |[]=>0
 |t :: r=>if a0y t.1 name then t.2 else a0h name r
def c4T(most:Int)(name:ByteArray)(a0c:Int)(L:List (Int × Int))(es:List Ent)(x:Int):Bool:=decide (0<a0r L x) && decide (most<a0o name x es+a0r L x*a0c)
def c4e(most:Int)(name:ByteArray)(a0c:Int)(L:List (Int × Int))(es:List Ent)(l:List Int):Bool:=l.all fun x=>!c4T most name a0c L es x
def a1e(ts:List (ByteArray × Int))(es:List Ent)(name:ByteArray)(a0c:Int)(L:List (Int × Int)):Bool:=c4e (a0h name ts) name a0c L es (a2L name es++L.map (·.1))
end Desk
namespace Desk
def a1Y(es:List Ent):Int:=((es.filter fun e=>e.kind==3).length:Int)
def a0S(ts:List (ByteArray × Int))(name:ByteArray)(a0c:Int):Int:=if a0h name ts=0 then 3 else if a0h name ts<a0c then 7 else 0
end Desk
theorem a1i{base e size:Nat}(h:w.ownsRow base e size v n xs)(k:Off G w w')(hg:∀ b,v.ownBlock=some b->b ∉ G):w'.ownsRow base e size v n xs:=by
 refine⟨h.1,?_⟩;rcases h.2 with h0|⟨g,cap,cur,hv,hb,hh,rest⟩
 ·exact .inl h0
 ·refine .inr ⟨g,cap,cur,hv,hb,?_,rest⟩
  have hlt:g<w.heap.size:=by
   by_cases hx:g<w.heap.size
   ·exact hx
   ·rw[Array.getElem?_eq_none (by omega)] at hh;cases hh
  rw[k.block g hlt (hg g (by rw[hv];rfl))];exact hh
def a2i(w:World)(d o:Nat)(v:Value)(l':List Hp.Hi)(w':World):Prop :=
 ∃ v',HP w' d o v' l'/\(∀ b,v'.ownBlock=some b->v.ownBlock=some b\/w.heap.size<=b)/\Off (d :: v.ownBlock.toList) w w'/\(∀ o',o'≠o->w'.cell? ⟨d,o',none⟩=w.cell? ⟨d,o',none⟩)/\∀ o',w'.frozen? ⟨d,o',none⟩=w.frozen? ⟨d,o',none⟩
theorem b8B{m:List Hp.Hi}(h:m.length=n+1)(a b c:Value):(((m.flatMap a9Z).set (n*3) a).set (n*3+1) b).set (n*3+2) c=(m.take n).flatMap a9Z++[a,b,c]:=by
 have hn:n<m.length:=by omega
 have hlen:((m.take n).flatMap a9Z).length=n*3:=by rw[a6R,List.length_take_of_le (by omega)]
 conv=>lhs;rw[a6i hn,List.flatMap_append,List.flatMap_cons]
 rw[List.set_append_right _ _ (by omega),List.set_append_right _ _ (by omega),List.set_append_right _ _ (by omega),hlen];rw[show n*3-n*3=0 from by omega,show n*3+1-n*3=1 from by omega,show n*3+2-n*3=2 from by omega];have e:m.drop (n+1)=[]:=List.drop_eq_nil_of_le (by omega);simp[a9Z,e]
def a9M(w:World)(H p n:Nat)(x:Hp.Hi):World :=
 (((((w.setCell ⟨H,p*3,none⟩ (.int .i64 x.t)).setCell ⟨H,p*3+1,none⟩ (.int .i64 x.n)).setCell ⟨H,p*3+2,none⟩ (.pointer (some ⟨x.v,0,none⟩))).setCell ⟨H,n*3,none⟩ (.int .i64 0)).setCell ⟨H,n*3+1,none⟩ (.int .i64 0)).setCell ⟨H,n*3+2,none⟩ (.pointer none)
theorem b5u(w:World)(H p n:Nat)(x:Hp.Hi):Off [H] w (a9M w H p n x):=(a5u _ _ _ _ _ _ _ _).trans (a5u _ _ _ _ _ _ _ _)
theorem HP.a9M{l:List Hp.Hi}(h:HP w d o (.slice (some ⟨H,0,none⟩) l.length cap) l)(hn:l.length=n+1)(hp:p<l.length):
  HP ((a9M w H p n (Hp.at_ l n)).setCell ⟨d,o,none⟩ (.slice (some ⟨H,0,none⟩) n cap)) d o (.slice (some ⟨H,0,none⟩) (Hp.cut l p).length cap) (Hp.cut l p):=by
 have hne:d≠H:=fun e=>h.ne (by rw[e];rfl)
 have k:=b5u w H p n (Hp.at_ l n);have c1:=k.cell (by simpa using hne) h.c;have a:=h.put hp (Hp.at_ l n);have e:Hp.cut l p=(l.set p (Hp.at_ l n)).take n:=by unfold Hp.cut;rw[hn];rfl
 have el:(Hp.cut l p).length=n:=by rw[Hp.a4y,hn];rfl
 have hm:(l.set p (Hp.at_ l n)).length=n+1:=by simpa using hn
 have b:=(((a.own.stored (n*3) (.int .i64 0)).1.stored (n*3+1) (.int .i64 0)).1.stored (n*3+2) (.pointer none)).1;rw[b8B hm,hm,<- e] at b;have b2:=ownsRow_pop (by rw[a6R,el]) b;refine⟨?_,?_,h.ne,?_⟩
 ·rw[el];exact zm _ _ _ c1
 ·rw[el];exact a1i b2 (Off.set0 d _ o _) (fun x hx=>by simp;rintro rfl;exact hne (by simpa[Value.ownBlock] using hx.symm))
 ·exact (zF ..).trans ((k.frozen (by simpa using hne) (zb _ _ h.c)).trans h.fz)
theorem a2i.of{l1 l':List Hp.Hi}(hv:v.ownBlock=some H)(hd:d<w.heap.size)(hne:d≠H)(h1:Off [d,H] w w1)(hc:∀ o',o'≠o->w1.cell? ⟨d,o',none⟩=w.cell? ⟨d,o',none⟩)(hf:∀ o',w1.frozen? ⟨d,o',none⟩=w.frozen? ⟨d,o',none⟩)(h2:a3b w1 w2 d o H l1.length cap l1 l'):a2i w d o v l' w2:=by
 have hb:w2.heap[d]?=w1.heap[d]?:=h2.off.block d (zL hd h1.size) (by simpa using hne);refine⟨_,h2.hp,fun b hb=>.inl (by rw[hv];exact hb),?_,fun o' ho=>(zo hb).trans (hc o' ho),fun o'=>?_⟩
 ·rw[hv];exact h1.trans' h2.off (fun x hx=>.inl (by simp at hx;simp[hx]))
 ·exact (World.frozen?_of_block hb).trans (hf o')
theorem b0y(d o:Nat)(v:Value)(l:List Hp.Hi)(p:Nat)(w:World)(h:HP w d o v l)(hh:Hp.a6r l)(hp:p<l.length)(hl:l.length<=1000):
  Calls Tryz.prog 204 #[.pointer (some ⟨d,o,none⟩),.int .i64 p] w fun e w'=>e=.returned (.tuple #[])/\∃ l',a2i w d o v l' w'/\Hp.a6r l'/\l.Perm (Hp.at_ l p :: l'):=by
 obtain⟨H,cap,rfl⟩:=h.form (by omega);obtain⟨n,hn⟩:∃ n,l.length=n+1:=⟨l.length-1,by omega⟩;have c:=h.c;have hne:d≠H:=fun e=>h.ne (by rw[e];rfl)
 obtain⟨a0,a1,a2⟩:=h.at hp;obtain⟨b0,b1,b2⟩:=h.at (i:=n) (by omega);have fz:∀ k,w.frozen? ⟨H,k,none⟩=false:=fun k=>h.own.frozenAt k
 have fd:=h.fz;have CL:=a0b (h.a9M hn hp);have e0:=(h.put hp (Hp.at_ l n)).at (i:=n) (by simp;omega);have ee:Hp.at_ (l.set p (Hp.at_ l n)) n=Hp.at_ l n:=by rw[Hp.b7r];split <;> rfl
 rw[ee] at e0;obtain⟨y0,y1,y2⟩:=e0;clear ee;have i1:(p:Int)<(l.length:Int):=by omega
 have HH:=a0b h;clear h;rw[hn] at c i1;generalize hx:Hp.at_ l n=x at *
 go_enter Tryz.func204,Tryz.ntmps204
 go_upto_region 1 with fail
 go_big_region
 have o1:Off [H] w (((w.setCell ⟨H,p*3,none⟩ (.int .i64 x.t)).setCell ⟨H,p*3+1,none⟩ (.int .i64 x.n)).setCell ⟨H,p*3+2,none⟩ (.pointer (some ⟨x.v,0,none⟩))):=a5u _ _ _ _ _ _ _ _;have c1:=o1.cell (by simpa using hne) c;have fd1:=(o1.frozen (o:=o) (by simpa using hne) (zb _ _ c)).trans fd;have fz1:∀ k,(((w.setCell ⟨H,p*3,none⟩ (.int .i64 x.t)).setCell ⟨H,p*3+1,none⟩ (.int .i64 x.n)).setCell ⟨H,p*3+2,none⟩ (.pointer (some ⟨x.v,0,none⟩))).frozen? ⟨H,k,none⟩=false:=fun k=>by simp[World.frozen?_setCell,fz]
 unfold a9M at CL;generalize hX:(((w.setCell ⟨H,p*3,none⟩ (.int .i64 x.t)).setCell ⟨H,p*3+1,none⟩ (.int .i64 x.n)).setCell ⟨H,p*3+2,none⟩ (.pointer (some ⟨x.v,0,none⟩)))=X at *;clear hX;have o2:=a5u X H (n*3) (n*3+1) (n*3+2) (.int .i64 0) (.int .i64 0) (.pointer none);have c2:=o2.cell (by simpa using hne) c1;have fd2:=(o2.frozen (o:=o) (by simpa using hne) (zb _ _ c1)).trans fd1
 go_upto_region 3 with fail
 generalize hY:((X.setCell ⟨H,n*3,none⟩ (.int .i64 0)).setCell ⟨H,n*3+1,none⟩ (.int .i64 0)).setCell ⟨H,n*3+2,none⟩ (.pointer none)=Y at *;clear hY
 have hcap:n+1<=cap:=by
  have h:=HH.out.own.2;rcases h with ⟨h0,_⟩|⟨g,cap',cur,hv,_,_,h1,_⟩
  ·cases h0
  ·cases hv;omega
 have hcap2:(n:Int)<=(cap:Int):=by omega
 have oo:Off [d,H] w (Y.setCell ⟨d,o,none⟩ (.slice (some ⟨H,0,none⟩) n cap)):=((o1.trans o2).mono (by simp)).setCell (.inl (by simp)) _ _;have hdl:d<w.heap.size:=zb _ _ c
 have hcc:∀ o',o'≠o->(Y.setCell ⟨d,o,none⟩ (.slice (some ⟨H,0,none⟩) n cap)).cell? ⟨d,o',none⟩=w.cell? ⟨d,o',none⟩:=fun o' ho =>
  (zS _ _ _ _ (by have:=ho;simp)).trans (zo ((o1.trans o2).block d hdl (by simpa using hne)))
 have hff:∀ o',(Y.setCell ⟨d,o,none⟩ (.slice (some ⟨H,0,none⟩) n cap)).frozen? ⟨d,o',none⟩=w.frozen? ⟨d,o',none⟩:=fun o' =>
  (zF ..).trans (World.frozen?_of_block ((o1.trans o2).block d hdl (by simpa using hne)))
 have OO:=a0b (zA oo (zA hcc hff));have el:(Hp.cut l p).length=n:=by rw[Hp.a4y,hn];rfl
 clear oo hcc hff o1 o2 c c1 a0 a1 a2 b0 b1 b2 y0 y1 y2 fz fz1 fd fd1
 by_cases hlt:p<n
 ·have hlt':(p:Int)<(n:Int):=by omega
  go_upto_region 5 with fail
  generalize hZ:Y.setCell ⟨d,o,none⟩ (.slice (some ⟨H,0,none⟩) n cap)=Z at *;have SK:=a0b (c2m d o H cap (Hp.cut l p) p Z.drew (CL.out.off (G:=[]) (Off.refl _ _).drew (by simp) (by simp)) (by omega) (Hp.c3x hh (by omega)) (by omega));clear hZ hcap hcap2 c2 fd2
  go_wp2_with fail
  refine SK.out.mono ?_;rintro e w4 ⟨rfl,l2,t2,r2⟩;have T2:=a0b t2;have hl2:=t2.len;have RS:=a0b (b6g d o H cap l2 p w4 (by rw[hl2];exact t2.hp) (by omega) r2 (by omega));clear t2 r2 SK
  go_wp2_with fail
  refine RS.out.mono ?_;rintro e w5 ⟨rfl,l3,t3,r3⟩
  have HF:Hid (∃ l',a2i w d o (.slice (some ⟨H,0,none⟩) l.length cap) l' w5/\Hp.a6r l'/\l.Perm (Hp.at_ l p :: l')):=by
   refine⟨l3,a2i.of (l1:=Hp.cut l p) rfl hdl hne OO.out.1 OO.out.2.1 OO.out.2.2 ⟨by rw[el,<- el,<- hl2];exact t3.hp,by rw[t3.len,hl2],t3.perm.trans T2.out.perm,((Off.refl [H] Z).drew).trans (T2.out.off.trans t3.off)⟩,r3,?_⟩;exact (Hp.b7j hp).trans ((t3.perm.trans T2.out.perm).symm.cons _)
  clear t3 r3 T2 RS
  go_wp2_with fail
  go_end0
  exact⟨rfl,HF.out⟩
 ·have hlt':¬ ((p:Int)<(n:Int)):=by omega
  have hpn:p=n:=by omega
  have HF:Hid (∃ l',a2i w d o (.slice (some ⟨H,0,none⟩) l.length cap) l' (Y.setCell ⟨d,o,none⟩ (.slice (some ⟨H,0,none⟩) n cap)).drew/\Hp.a6r l'/\l.Perm (Hp.at_ l p :: l')):=by
   refine⟨Hp.cut l p,a2i.of (l1:=Hp.cut l p) rfl hdl hne OO.out.1 OO.out.2.1 OO.out.2.2 ⟨CL.out.off (G:=[]) (Off.refl _ _).drew (by simp) (by simp),rfl,.refl _,(Off.refl _ _).drew⟩,?_,Hp.b7j hp⟩;rw[hpn,show n=l.length-1 by omega];exact Hp.c3y hh
  clear CL OO hn hx hpn el
  go_wp2_with fail
  go_end0
  exact⟨rfl,HF.out⟩
theorem b7P(d o:Nat)(v:Value)(l:List Hp.Hi)(t:Int)(w:World)(h:HP w d o v l)(hh:Hp.a6r l)(hl:l.length<=1000):
  Calls Tryz.prog 218 #[.pointer (some ⟨d,o,none⟩),.int .i64 t] w fun e w' =>
   ((l.length=0\/t<(Hp.at_ l 0).t)/\e=.returned (.tuple #[.pointer none,.bool false])/\w'=w) \/
   ((0<l.length/\(Hp.at_ l 0).t<=t)/\e=.returned (.tuple #[.pointer (some ⟨(Hp.at_ l 0).v,0,none⟩),.bool true])/\∃ l',a2i w d o v l' w'/\Hp.a6r l'/\l.Perm (Hp.at_ l 0 :: l')):=by
 have FI:=a0b (b0P d o v l w h)
 by_cases h0:l.length=0
 ·have e1:c5M l=false:=by simp[c5M,h0]
  rw[e1] at FI;have HH:Hid (l.length=0\/t<(Hp.at_ l 0).t):=.inl h0;clear h e1 h0
  go_enter Tryz.func218,Tryz.ntmps218
  go_wp2_with fail
  refine FI.out.mono ?_;rintro e w1 ⟨rfl,rfl⟩
  go_wp2_with fail
  go_ret2;exact .inl ⟨HH.out,rfl,rfl⟩
 ·have hp:0<l.length:=by omega
  rw[b1W hp,b1V hp] at FI
  by_cases ht:t<(Hp.at_ l 0).t
  ·have HH:Hid (l.length=0\/t<(Hp.at_ l 0).t):=.inr ht;clear h h0
   go_enter Tryz.func218,Tryz.ntmps218
   go_wp2_with fail
   refine FI.out.mono ?_;rintro e w1 ⟨rfl,rfl⟩
   go_wp2_with fail
   go_ret2;exact .inl ⟨HH.out,rfl,rfl⟩
  ·obtain⟨H,cap,rfl⟩:=h.form hp;have c:=h.c;obtain⟨a0,a1,a2⟩:=h.at hp;simp only[Nat.zero_mul,Nat.zero_add] at a0 a1 a2;have RM:=a0b (b0y d o _ l 0 w h hh hp hl);have HH:Hid (0<l.length/\(Hp.at_ l 0).t<=t):=⟨hp,by omega⟩;have hi:(0:Int)<(l.length:Int):=by omega
   clear h h0
   go_enter Tryz.func218,Tryz.ntmps218
   go_wp2_with fail
   refine FI.out.mono ?_;rintro e w1 ⟨rfl,rfl⟩
   go_wp2_with fail
   refine RM.out.mono ?_;rintro e w2 ⟨rfl,k⟩;have K:=a0b k;clear k RM FI
   go_wp2_with fail
   go_ret2;exact .inr ⟨HH.out,rfl,K.out⟩
theorem Off.grown{F:List Nat}{w'':World}{row:Option Nat}(h:Off F w w')(g:w'.grownBy w'' row)(hr:∀ k,row=some k->k∈F\/w.heap.size<=k):Off F w w'' :=
 ⟨g.os.trans h.os,g.tape.trans h.tape,g.output.trans h.output,Nat.le_trans h.size g.size,fun k hk hF=>(g.block k (zL hk h.size) (fun e=>by rcases hr k e.symm with h1|h1;exact hF h1;omega)).trans (h.block k hk hF)⟩
theorem c3a:(Tryz.prog.info? 286).map (fun i=>(i.zero,i.size,i.bytes))=some (some (.agg #[.int .i64 0,.int .i64 0,.pointer none]),3,24):=by kernel_rfl
theorem c3d(d o:Nat)(v:Value)(l:List Hp.Hi)(x:Hp.Hi)(w:World)(h:HP w d o v l)(hh:Hp.a6r l)(hl:l.length<=900):
  Calls Tryz.prog 198 #[.pointer (some ⟨d,o,none⟩),.int .i64 x.t,.int .i64 x.n,.pointer (some ⟨x.v,0,none⟩)] w fun e w'=>e=.returned (.tuple #[])/\∃ l',a2i w d o v l' w'/\Hp.a6r l'/\l'.Perm (l++[x]):=by
 obtain⟨i0,hi0,hz0,hz1,hz2⟩:=info_parts c3a;have c:=h.c;have fd:=h.fz;have H:=a0b h;clear h
 go_enter Tryz.func198,Tryz.ntmps198
 have hdl:d<w.heap.size:=zb _ _ c;have hdv:d ∉ v.ownBlock.toList:=by intro e;exact H.out.ne (by simpa using e)
 go_wp2_with (first
  |(at_builtin;refine wpList_append_lies _ rfl _ _ 140 rfl 0 286 i0 _ 3 24 Tryz.underlying140 hi0 hz0 hz1 hz2 rfl (by decide) _ _ _ rfl (H.out.own.alloc _) ⟨w.heap.size,0,none⟩ 1 1 (a9Z x) rfl rfl (World.news_of_block (cs:=(a9Z x).toArray) (a0p w _)) (by simp[a9Z,Value.oneCell']) (by omega) (by unfold maxLen;omega) (by omega) (by simp) (w.heap.size+1) (by simp) ?_;intro g cap w1 hown hgrow hat hlt;have kk:Off (v.ownBlock.toList) w w1:=Off.grown ((Off.refl _ w).alloc _) hgrow (fun k hk=>.inl (Option.mem_toList.2 hk));have z1:=kk.cell hdv c;have z2:=(kk.frozen (o:=o) hdv hdl).trans fd;clear hgrow))
 have hgd:d≠g:=by
  rcases hat with e|e
  ·rintro rfl;exact H.out.ne e
  ·omega
 have hz:HP (w1.setCell ⟨d,o,none⟩ (.slice (some ⟨g,0,none⟩) (l.length+1) cap)) d o (.slice (some ⟨g,0,none⟩) (l++[x]).length cap) (l++[x]):=by
  have el:(l++[x]).length=l.length+1:=by simp
  rw[el];refine⟨zm _ _ _ z1,?_,fun e=>hgd (by simpa[Value.ownBlock] using e.symm),(zF ..).trans z2⟩;rw[el,List.flatMap_append];have e2:[x].flatMap a9Z=a9Z x:=by simp
  rw[e2];exact a1i hown (Off.set0 d _ o _) (fun b hb=>by simp;rintro rfl;exact hgd (by simpa[Value.ownBlock] using hb.symm))
 have RS:=a0b (b6g d o g cap (l++[x]) l.length _ hz (by simp) (Hp.c2v hh) (by simp;omega));have KK:=a0b (zA kk hat);clear hz hown kk hat z1 z2 fd c;refine RS.out.mono ?_;rintro e w5 ⟨rfl,l',t',r'⟩
 have HF:Hid (∃ l',a2i w d o v l' w5/\Hp.a6r l'/\l'.Perm (l++[x])):=by
  refine⟨l',⟨_,t'.hp,fun b hb=>?_,?_,fun o' ho=>?_,fun o'=>?_⟩,r',t'.perm⟩
  ·have:g=b:=by simpa[Value.ownBlock] using hb
   subst this;rcases KK.out.2 with e|e
   ·exact .inl e
   ·exact .inr (by omega)
  ·refine ((KK.out.1.mono (by simp +contextual)).setCell (.inl (by simp)) o _).trans' t'.off (fun k hk=>?_);have:k=g:=by simpa using hk
   subst this;rcases KK.out.2 with e|e
   ·exact .inl (List.mem_cons_of_mem _ (Option.mem_toList.2 e))
   ·exact .inr (by omega)
  ·have b5:=t'.off.block d (by have:=KK.out.1.size;simp;omega) (by simpa using hgd);exact (zo b5).trans ((zS _ _ _ _ (by have:=ho;simp)).trans (zo (KK.out.1.block d hdl hdv)))
  ·have b5:=t'.off.block d (by have:=KK.out.1.size;simp;omega) (by simpa using hgd);exact (World.frozen?_of_block b5).trans ((zF ..).trans (World.frozen?_of_block (KK.out.1.block d hdl hdv)))
 clear RS KK t' r'
 go_wp2_with fail
 go_end0
 exact⟨rfl,HF.out⟩
def a3z{α:Type}(p:α->Bool):List α->Int->Int
 |[],_=>-1
 |x :: r,i=>if p x then i else a3z p r (i+1)
theorem a7F{α:Type}(p:α->Bool):∀ (l:List α)(i:Int),(a3z p l i=-1/\∀ x∈l,p x=false)\/∃ (k:Nat)(h:k<l.length),a3z p l i=i+k/\p l[k]=true/\∀ (j:Nat)(hj:j<k),p (l[j]'(by omega))=false
 |[],i=>.inl ⟨rfl,fun x hx=>by simp at hx⟩
 |x :: r,i=>by
  cases hp:p x
  ·rcases a7F p r (i+1) with ⟨h1,h2⟩|⟨k,h,h1,h2,h3⟩
   ·exact .inl ⟨by simp[a3z,hp,h1],fun y hy=>by rcases List.mem_cons.1 hy with rfl|hy;exact hp;exact h2 y hy⟩
   ·refine .inr ⟨k+1,by simp;omega,by simp[a3z,hp,h1];omega,by simpa using h2,fun j hj=>?_⟩
    cases j with
    |zero=>simpa using hp
    |succ j=>simpa using h3 j (by omega)
  ·exact .inr ⟨0,by simp,by simp[a3z,hp],by simpa using hp,fun j hj=>by omega⟩
theorem c5d{α:Type}(p:α->Bool)(l:List α):-1<=a3z p l 0/\a3z p l 0<l.length:=by
 rcases a7F p l 0 with ⟨h,_⟩|⟨k,h,e,_⟩
 ·omega
 ·omega
theorem a2i.from{l':List Hp.Hi}(h:a2i w1 d o v l' w2)(k:Below w.heap.size w w1)(hd:d<w.heap.size):a2i w d o v l' w2:=by
 obtain⟨v',h1,h2,h3,h4,h5⟩:=h;refine⟨v',h1,fun b hb=>(h2 b hb).imp id (fun e=>zt k.size e),(Off.of_below k).trans h3,fun o' ho=>(h4 o' ho).trans (zo (k.block d hd)),fun o'=>(h5 o').trans (World.frozen?_of_block (k.block d hd))⟩
theorem c0Y(x:Hp.Hi)(t n:Int)(A B:Nat)(w:World)(ca:w.cell? ⟨A,0,none⟩=some (.int .i64 t))(cb:w.cell? ⟨B,0,none⟩=some (.int .i64 n)):
  Calls Tryz.prog 202 #[.agg #[.int .i64 x.t,.int .i64 x.n,.pointer (some ⟨x.v,0,none⟩)],.pointer (some ⟨A,0,none⟩),.pointer (some ⟨B,0,none⟩)] w fun e w'=>e=.returned (.bool (a8y x t n==0))/\Below w.heap.size w w':=by
 have CM:=a0b (fun w'=>a8e x t n w');have hX:Below w.heap.size w (w.alloc (.cells #[.int .i64 x.t,.int .i64 x.n,.pointer (some ⟨x.v,0,none⟩)] 286)):=(zr _ _).alloc (zq _) _;have xa:=a0a hX ca;have xb:=a0a hX cb;have HX:=a0b hX;clear hX
 go_enter Tryz.func202,Tryz.ntmps202
 go_wp2_with fail
 refine (CM.out _).mono ?_;rintro e w1 ⟨rfl,k1⟩;have HK:=a0b (a0j HX.out k1 (zq _));clear k1 xa xb
 go_wp2_with fail
 go_ret;exact⟨rfl,HK.out⟩
theorem b1U(l:List Hp.Hi)(t n:Int)(v:Value)(A B:Nat)(w:World)(own:w.ownsRow 0 286 3 v l.length (l.flatMap a9Z))(ca:w.cell? ⟨A,0,none⟩=some (.int .i64 t))(cb:w.cell? ⟨B,0,none⟩=some (.int .i64 n))(hl:l.length<=1000):
  Calls Tryz.prog 201 #[v,.func (.func 202) #[] #[.pointer (some ⟨A,0,none⟩),.pointer (some ⟨B,0,none⟩)]] w fun e w'=>e=.returned (.int .i64 (a3z (fun x=>a8y x t n==0) l 0))/\Below w.heap.size w w':=by
 have hv:∃ a cap,v=.slice a l.length cap:=by
  rcases own.2 with ⟨rfl,h⟩|⟨g,cap,_,rfl,_⟩
  ·rw[h];exact⟨_,_,rfl⟩
  ·exact⟨_,_,rfl⟩
 obtain⟨a,cap,rfl⟩:=hv;have CAB:=a0b (zA ca cb);have OWN:=a0b own;clear ca cb own
 go_enter Tryz.func201,Tryz.ntmps201
 go_wp2_with fail
 go_loopw [8] (fun i wx=>∃ k:Nat,k<=l.length/\i=.int .i64 k/\a3z (fun x=>a8y x t n==0) l 0=a3z (fun x=>a8y x t n==0) (l.drop k) k/\Below w.heap.size w wx) (fun i _=>l.length-(intOf i).toNat)
 case atStart=>exact⟨0,Nat.zero_le _,rfl,rfl,Below.refl _ _⟩
 case round =>
  obtain⟨k,hk,rfl,hu,hb⟩:=hrel;have HU:=a0b hu;have HB:=a0b hb
  by_cases hlt:k<l.length
  ·have hi:(k:Int)<(l.length:Int):=by omega
   obtain⟨H,cap',e1⟩:=Joins.ownsRow_form OWN.out (by omega);simp only[Value.slice.injEq,true_and] at e1;obtain⟨rfl,rfl⟩:=e1;have ownr:=a1g OWN.out hb;have a0:=(ownr.cellAt (k*3) (by omega)).trans (a5H hlt (j:=0) (by omega));have a1:=(ownr.cellAt (k*3+1) (by omega)).trans (a5H hlt (j:=1) (by omega));have a2:=(ownr.cellAt (k*3+2) (by omega)).trans (a5H hlt (j:=2) (by omega));simp only[a9Z,List.getElem?_cons_zero,List.getElem?_cons_succ] at a0 a1 a2;have D1:=a0b (c0Y l[k] t n A B wr (a0a hb CAB.out.1) (a0a hb CAB.out.2));have ed:a3z (fun x=>a8y x t n==0) (l.drop k) k=if a8y l[k] t n==0 then (k:Int) else a3z (fun x=>a8y x t n==0) (l.drop (k+1)) ((k+1:Nat):Int):=by rw[List.drop_eq_getElem_cons hlt];rfl
   have ED:=a0b ed;clear ed ownr hb hu
   cases hq:(a8y l[k] t n==0)
   ·have HN:Hid (a3z (fun x=>a8y x t n==0) l 0=a3z (fun x=>a8y x t n==0) (l.drop (k+1)) ((k+1:Nat):Int)):=by show _=_;rw[HU.out,ED.out,hq];rfl
    rw[hq] at D1;clear hq
    go_wp2_with fail
    refine D1.out.mono ?_;rintro e w1 ⟨rfl,k1⟩;have HK:=a0b (a0j HB.out k1 (zq _));clear k1 a0 a1 a2 D1
    go_wp2_with fail
    go_roundw
    case rel=>exact⟨k+1,by omega,by go_num,HN.out,HK.out⟩
    case measure=>simp[intOf];omega
   ·have HN:Hid (a3z (fun x=>a8y x t n==0) l 0=k):=by show _=_;rw[HU.out,ED.out,hq];rfl
    rw[hq] at D1;clear hq
    go_wp2_with fail
    refine D1.out.mono ?_;rintro e w1 ⟨rfl,k1⟩;have HK:=a0b (a0j HB.out k1 (zq _));clear k1 a0 a1 a2 D1
    go_wp2_with fail
    go_ret;exact⟨a1L HN.out.symm,HK.out⟩
  ·have hi:¬ (k:Int)<(l.length:Int):=by omega
   have e:l.drop k=[]:=List.drop_eq_nil_of_le (by omega);have HN:Hid (a3z (fun x=>a8y x t n==0) l 0=-1):=by show _=_;rw[HU.out,e];rfl
   clear hu hb e
   go_wp2_with fail
   go_ret;exact⟨a1L HN.out.symm,HB.out⟩
theorem c0G(d o:Nat)(v:Value)(l:List Hp.Hi)(t n:Int)(w:World)(h:HP w d o v l)(hh:Hp.a6r l)(hl:l.length<=1000):
  Calls Tryz.prog 149 #[.pointer (some ⟨d,o,none⟩),.int .i64 t,.int .i64 n] w fun e w'=>e=.returned (.tuple #[]) /\
   (((∀ x∈l,¬ (x.t=t/\x.n=n))/\Below w.heap.size w w')\/∃ (x:Hp.Hi) (l':List Hp.Hi),x.t=t/\x.n=n/\a2i w d o v l' w'/\Hp.a6r l'/\l.Perm (x :: l')):=by
 have hX:Below w.heap.size w ((w.alloc (.cells #[.int .i64 t] 3)).alloc (.cells #[.int .i64 n] 3)):=((zr _ _).alloc (zq _) _).alloc (by simp) _;have hx:=h.later hX;have c:=hx.c;have xa:((w.alloc (.cells #[.int .i64 t] 3)).alloc (.cells #[.int .i64 n] 3)).cell? ⟨w.heap.size,0,none⟩=some (.int .i64 t):=by simp
 have xb:((w.alloc (.cells #[.int .i64 t] 3)).alloc (.cells #[.int .i64 n] 3)).cell? ⟨w.heap.size+1,0,none⟩=some (.int .i64 n):=by
  have:=a0p (w.alloc (.cells #[.int .i64 t] 3)) (.cells #[.int .i64 n] 3);rw[World.size_alloc] at this;simp only[World.cell?,this];rfl
 have IX:=a0b (b1U l t n v w.heap.size (w.heap.size+1) _ hx.own xa xb hl);have HX:=a0b (zA hX hx);have hdl:d<w.heap.size:=zb _ _ h.c;have bd:=c5d (fun x=>a8y x t n==0) l;have hq:=a7F (fun x=>a8y x t n==0) l 0;clear hX hx xa xb h;generalize a3z (fun x=>a8y x t n==0) l 0=q at *;have HQ:=a0b hq;clear hq
 go_enter Tryz.func149,Tryz.ntmps149
 go_wp2_with fail
 generalize ((w.alloc (.cells #[.int .i64 t] 3)).alloc (.cells #[.int .i64 n] 3))=X at *;refine IX.out.mono ?_;rintro e w1 ⟨rfl,k1⟩;have H1:=a0b (zA (a0j HX.out.1 k1 (zq _)) (HX.out.2.later k1));clear k1 IX c HX
 by_cases h0:0<=q
 ·obtain⟨k,hk,e1,e2,e3⟩:∃ (k:Nat) (h:k<l.length),q=k/\(a8y l[k] t n==0)=true/\True:=by
   rcases HQ.out with ⟨h,_⟩|⟨k,h,e,e2,_⟩
   ·omega
   ·exact⟨k,h,by omega,e2,trivial⟩
  subst e1;have RM:=a0b (b0y d o v l k w1 H1.out.2 hh hk hl);have HE:=a0b e2;clear e2 e3 HQ
  go_wp2_with fail
  refine RM.out.mono ?_;rintro e w2 ⟨rfl,l',p1,p2,p3⟩
  have HF:Hid (∃ (x:Hp.Hi) (l':List Hp.Hi),x.t=t/\x.n=n/\a2i w d o v l' w2/\Hp.a6r l'/\l.Perm (x :: l')):=by
   have e2:a8y l[k] t n=0:=by simpa using HE.out
   obtain⟨q1,q2⟩:=(b3w _ _ _).1 e2;refine⟨Hp.at_ l k,l',by rw[Hp.a4H hk];exact q1,by rw[Hp.a4H hk];exact q2,p1.from H1.out.1 hdl,p2,p3⟩
  clear p1 p2 p3 RM
  go_wp2_with fail
  go_end0
  exact⟨rfl,.inr HF.out⟩
 ·have HF:Hid (∀ x∈l,¬ (x.t=t/\x.n=n)):=by
   rcases HQ.out with ⟨_,h⟩|⟨k,h,e,_⟩
   ·intro x hx e;have:=h x hx;have e0:=(b3w x t n).2 e;simp[e0] at this
   ·omega
  clear HQ
  go_wp2_with fail
  go_end0
  exact⟨rfl,.inl ⟨HF.out,H1.out.1⟩⟩
open Go Go.Maps
def c6O(o:Option Nat):Value:=.pointer (o.map fun b=>⟨b,0,none⟩)
def b1A(o:Option Nat):DataW Unit:=.lit (.int .i64 (match o with|none=>-1|some b=>(b:Int)))
def c2C:Value->Option (DataW Unit × List MemPlace)
 |.pointer none=>some (b1A none,[])
 |.pointer (some ⟨b,0,none⟩)=>some (b1A (some b),[])
 |_=>none
theorem c4S(o:Option Nat):c2C (c6O o)=some (b1A o,[]):=by cases o <;> rfl
theorem b6i{a b:Option Nat}(h:b1A a=b1A b):a=b:=by
 unfold b1A at h
 cases a <;> cases b <;> simp at h ⊢ <;> omega
theorem c2B{o:Option Nat}{ps:List MemPlace}(h:c2C v=some (b1A o,ps)):v=c6O o:=by
 unfold c2C at h
 split at h
 ·have e:b1A none=b1A o:=congrArg Prod.fst (Option.some.inj h);have:=b6i e;subst this;rfl
 ·rename_i b
  have e:b1A (some b)=b1A o:=congrArg Prod.fst (Option.some.inj h);have:=b6i e;subst this;rfl
 ·cases h
noncomputable def upd(f:Lit->Option Nat)(kl:Lit)(o:Option Nat)(x:Lit):Option Nat:=@ite _ (x=kl) (Classical.propDecidable _) o (f x)
theorem a4f(f:Lit->Option Nat)(kl:Lit)(o:Option Nat):upd f kl o kl=o:=if_pos rfl
theorem a3n(f:Lit->Option Nat){kl x:Lit}(o:Option Nat)(h:x≠kl):upd f kl o x=f x:=if_neg h
def a4N(P:Program)(k:TypeId)(w:World)(b n:Nat)(f:Lit->Option Nat)(sz:Nat):Prop :=
 ∃ D,w.ownsMap P k c2C b n D/\Maps.size D=sz/\(∀ kl,D.atKey kl (b1A none)=b1A (f kl))/\∀ kl,Maps.has D kl=(f kl).isSome
theorem a4N.block{P:Program}{k:TypeId}{f:Lit->Option Nat}(h:a4N P k w b n f sz)(hb:w'.heap[b]?=w.heap[b]?):a4N P k w' b n f sz:=by
 obtain⟨D,⟨es,clock,h1,h2⟩,h3⟩:=h;exact⟨D,⟨es,clock,hb.trans h1,h2⟩,h3⟩
theorem a4N.tight{P:Program}{k:TypeId}{f:Lit->Option Nat}(h:a4N P k w b n f sz):a4N P k w b sz f sz:=by
 obtain⟨D,⟨es,clock,h1,h2,h3,h4⟩,h5,h6⟩:=h;refine⟨D,⟨es,clock,h1,h2,?_,h4⟩,h5,h6⟩;rw[<- h5,h4,Maps.size_eq,length_sorted];simp
theorem a4N.made(P:Program)(k:TypeId)(w:World):a4N P k (w.alloc (.map #[] 0)) w.heap.size 0 (fun _=>none) 0 :=
 ⟨.map [],World.ownsMap_made w P k c2C,rfl,fun _=>rfl,fun _=>rfl⟩
theorem a4N.look{P:Program}{k e t:TypeId}{f:Lit->Option Nat}(h:a4N P k w b n f sz)(K:Keyed P k)(ht:P.underlying t=some (.map k e))(hz:(zeroValue e).run P w=.ok (.pointer none) w){kl:Lit}(hkey:keyOf P k key=some kl):
  (Instr.lookup t (.map (some b)) key false).run P w=.ok (c6O (f kl)) w:=by
 obtain⟨D,h1,_,h3,_⟩:=h;obtain⟨v,ps,hrun,hv⟩:=h1.lookup K ht hz (zd:=b1A none) (zp:=[]) rfl hkey;rw[h3] at hv;rw[hrun,c2B hv]
theorem a4N.len{P:Program}{k e t:TypeId}{f:Lit->Option Nat}(h:a4N P k w b n f sz)(ht:P.underlying t=some (.map k e))(ty:TypeId):(Builtin.len_ #[t] ty #[.map (some b)]).run P w=.ok (.int .i64 sz) w:=by
 obtain⟨D,h1,h2,_⟩:=h;rw[h1.len ht ty,h2]
theorem a4N.put{P:Program}{k:TypeId}{f:Lit->Option Nat}{D:DataW Unit}{kl:Lit}(K:Keyed P k)(w:World)(hD:w.ownsMap P k c2C b n D)(h:w'.ownsMap P k c2C b (n+1) (D.put kl (b1A (some p))))(hk:WideAt.IsKeyLit kl)(h3:∀ kl,D.atKey kl (b1A none)=b1A (f kl))(h4:∀ kl,Maps.has D kl=(f kl).isSome):
  a4N P k w' b (n+1) (upd f kl (some p)) (if (f kl).isSome then Maps.size D else Maps.size D+1):=by
 refine⟨_,h,?_,fun x=>?_,fun x=>?_⟩
 ·rw[Maps.size_put (hD.tidy K),h4]
 ·by_cases c:x=kl
  ·rw[c,a4f,Maps.atKey_put_same hD.isMap hk]
  ·rw[a3n f _ c,Maps.atKey_put_other c,h3]
 ·by_cases c:x=kl
  ·rw[c,a4f,Maps.has_put_same hD.isMap hk];rfl
  ·rw[a3n f _ c,Maps.has_put_other c,h4]
theorem a4N.del{P:Program}{k:TypeId}{f:Lit->Option Nat}{D:DataW Unit}{kl:Lit}(K:Keyed P k)(w:World)(hD:w.ownsMap P k c2C b n D)(h:w'.ownsMap P k c2C b n (D.del kl))(h3:∀ kl,D.atKey kl (b1A none)=b1A (f kl))(h4:∀ kl,Maps.has D kl=(f kl).isSome):
  a4N P k w' b n (upd f kl none) (Maps.size D-if (f kl).isSome then 1 else 0):=by
 refine⟨_,h,?_,fun x=>?_,fun x=>?_⟩
 ·have:=Maps.size_del (k:=kl) (hD.tidy K);rw[h4] at this;omega
 ·by_cases c:x=kl
  ·rw[c,a4f,Maps.atKey_del_same]
  ·rw[a3n f _ c,Maps.atKey_del_other c,h3]
 ·by_cases c:x=kl
  ·rw[c,a4f,Maps.has_del_same];rfl
  ·rw[a3n f _ c,Maps.has_del_other c,h4]
theorem a4N.dropRun{P:Program}{k e t:TypeId}{f:Lit->Option Nat}(h:a4N P k w b n f sz)(K:Keyed P k)(ht:P.underlying t=some (.map k e)){kl:Lit}(hkey:keyOf P k key=some kl)(ty:TypeId):
  ∃ w',(Builtin.delete_ #[t,k] ty #[.map (some b),key]).run P w=.ok (.tuple #[]) w'/\a4N P k w' b n (upd f kl none) (sz-if (f kl).isSome then 1 else 0)/\w.grownBy w' (some b):=by
 obtain⟨D,h1,h2,h3,h4⟩:=h;obtain⟨w',hrun,r1,r2⟩:=h1.drop K ht hkey ty;refine⟨w',hrun,?_,r2.grown⟩;rw[<- h2];exact a4N.del K w h1 r1 h3 h4
theorem a4N.storeRun{P:Program}{k e t:TypeId}{f:Lit->Option Nat}(h:a4N P k w b n f sz)(K:Keyed P k)(ht:P.underlying t=some (.map k e))(hn:n<maxLen){kl:Lit}(hkey:keyOf P k key=some kl)(hlit:WideAt.IsKeyLit kl)(p:Nat):
  ∃ w',(Instr.mapUpdate t (.map (some b)) key (c6O (some p))).run P w=.ok () w'/\a4N P k w' b (n+1) (upd f kl (some p)) (if (f kl).isSome then sz else sz+1)/\w.grownBy w' (some b):=by
 obtain⟨D,h1,h2,h3,h4⟩:=h;obtain⟨w',hrun,r1,r2⟩:=h1.update K ht hn hkey (c4S (some p));refine⟨w',hrun,?_,r2⟩;rw[<- h2];exact a4N.put K w h1 r1 hlit h3 h4
section
variable {P:Program}(w:World) {ops:Array Oper}{rest:List Oper}{o:Oper}{a:Act}{Q:Exit->Act->World->Prop}
end
end Go.Proofs.YtfigmlfdnickmaaGreatDoor
namespace Go.Proofs.YtfigmlfdnickmaaGreatDoor.Cal
def ah(y:Int):Int:=(y-1)*365+(y-1) / 4-(y-1) / 100+(y-1) / 400
def c2U(y:Int):Bool:=y % 4==0 && (y % 100 != 0 || y % 400==0)
def lp(y:Int):Int:=if c2U y then 1 else 0
def tab(m:Int):Int:=if m=2 then 28 else if m=4\/m=6\/m=9\/m=11 then 30 else 31
def dim(y m:Int):Int:=if m=2 then 28+lp y else tab m
def cum(y m:Int):Int :=
 if m<=1 then 0 else if m=2 then 31 else lp y+(if m=3 then 59 else if m=4 then 90 else if m=5 then 120 else if m=6 then 151 else if m=7 then 181 else if m=8 then 212 else if m=9 then 243 else if m=10 then 273 else if m=11 then 304 else if m=12 then 334 else 365)
def first:Int:=-738885
def last:Int:=2913173
def num(y m d:Int):Int:=first+ah y+cum y m+d-1
def ok(y m d:Int):Bool:=decide (1<=y/\y<=9999/\1<=m/\m<=12/\1<=d/\d<=dim y m)
theorem c4Z(y:Int):0<=lp y/\lp y<=1:=by unfold lp;split <;> omega
theorem c6W(y:Int):lp y=1/\y % 4=0/\(y % 100≠0\/y % 400=0)\/lp y=0/\¬ (y % 4=0/\(y % 100≠0\/y % 400=0)):=by
 unfold lp
 cases h:c2U y
 ·right;refine⟨by simp,?_⟩;simp only[c2U,Bool.and_eq_false_iff,Bool.or_eq_false_iff,beq_eq_false_iff_ne,bne_eq_false_iff_eq] at h;omega
 ·left;refine⟨by simp,?_⟩;simp only[c2U,Bool.and_eq_true,Bool.or_eq_true,beq_iff_eq,bne_iff_ne] at h;exact h
theorem b5I(y:Int)(_h:1<=y):ah (y+1)=ah y+365+lp y:=by
 rcases c6W y with ⟨e,h1⟩|⟨e,h1⟩ <;> rw[e] <;> unfold ah <;> omega
theorem a9T(a b:Int)(_h0:1<=a)(_h:a<=b):ah a<=ah b:=by unfold ah;omega
theorem b7t:ah 10000=3652059:=by decide
theorem b7s(g:Int)(_h:0<=g):ah (g*400 / 146097+1)<=g:=by unfold ah;omega
theorem c5D(y:Int)(_h1:1<=y)(_h2:y<=10000):0<=ah y/\ah y<=3652059:=by unfold ah;omega
theorem c5Q(m:Int):28<=tab m/\tab m<=31:=by unfold tab;(repeat' split) <;> omega
theorem b3I(y m:Int):28<=dim y m/\dim y m<=31:=by
 have:=c4Z y;have:=c5Q m;unfold dim;split <;> omega
theorem c3Z(m:Int)(h1:1<=m)(h2:m<=12):m=1\/m=2\/m=3\/m=4\/m=5\/m=6\/m=7\/m=8\/m=9\/m=10\/m=11\/m=12:=by omega
theorem a9K(y:Int):cum y 1=0:=by simp[cum]
theorem a5M(y m:Int)(h1:1<=m)(h2:m<=12):cum y (m+1)=cum y m+dim y m:=by
 rcases c3Z m h1 h2 with h|h|h|h|h|h|h|h|h|h|h|h <;> subst h <;> simp[cum,dim,tab] <;> omega
theorem b5q(y:Int):cum y 13=365+lp y:=by simp[cum];omega
theorem c1p(y a:Int)(k:Nat)(h1:1<=a)(h2:a+k<=13):cum y a<=cum y (a+k):=by
 induction k with
 |zero=>simp
 |succ k ih =>
  have c:=a5M y (a+k) (by omega) (by omega);have d:=b3I y (a+k);have i:=ih (by omega);rw[show a+((k+1:Nat):Int)=a+k+1 from by omega,c];omega
theorem b7m(y m:Int)(h1:1<=m)(h2:m<=13):0<=cum y m/\cum y m<=365+lp y:=by
 have a:=c1p y 1 (m-1).toNat (by omega) (by omega);have b:=c1p y m (13-m).toNat h1 (by omega);rw[show (1:Int)+((m-1).toNat:Int)=m from by omega,a9K] at a;rw[show m+((13-m).toNat:Int)=13 from by omega,b5q] at b;exact⟨a,b⟩
theorem b2i(y a b:Int)(h1:1<=a)(h:a<b)(h2:b<=13):cum y a+dim y a<=cum y b:=by
 rw[<- a5M y a h1 (by omega)];have c:=c1p y (a+1) (b-(a+1)).toNat (by omega) (by omega)
 rwa [show (a+1)+((b-(a+1)).toNat:Int)=b from by omega] at c
theorem a2K(y m d:Int):ok y m d=true↔1<=y/\y<=9999/\1<=m/\m<=12/\1<=d/\d<=dim y m:=by simp[ok]
theorem a9p(y m d:Int)(h:ok y m d=true):ah y<=num y m d-first/\num y m d-first<ah (y+1):=by
 obtain⟨h1,h2,h3,h4,h5,h6⟩:=(a2K y m d).1 h;have a:=b5I y h1;have b:=b7m y m h3 (by omega);have c:=a5M y m h3 h4;have e:=b7m y (m+1) (by omega) (by omega);unfold num;omega
theorem c1Q(a b n:Int)(ha:1<=a)(hb:1<=b)(h1:ah a<=n)(h2:n<ah (a+1))(h3:ah b<=n)(h4:n<ah (b+1)):a=b:=by
 by_cases h:a<b
 ·have:=a9T (a+1) b (by omega) (by omega);omega
 ·by_cases h':b<a
  ·have:=a9T (b+1) a (by omega) (by omega);omega
  ·omega
theorem c0n(y a b n:Int)(ha:1<=a)(ha':a<=12)(hb:1<=b)(hb':b<=12)(h1:cum y a<=n)(h2:n<cum y a+dim y a)(h3:cum y b<=n)(h4:n<cum y b+dim y b):a=b:=by
 by_cases h:a<b
 ·have:=b2i y a b ha h (by omega);omega
 ·by_cases h':b<a
  ·have:=b2i y b a hb h' (by omega);omega
  ·omega
theorem one(y m d y' m' d':Int)(h:ok y m d=true)(h':ok y' m' d'=true)(e:num y m d=num y' m' d'):y=y'/\m=m'/\d=d':=by
 have i:=a9p y m d h;have i':=a9p y' m' d' h';obtain⟨h1,h2,h3,h4,h5,h6⟩:=(a2K y m d).1 h;obtain⟨g1,g2,g3,g4,g5,g6⟩:=(a2K y' m' d').1 h';have hy:y=y':=c1Q y y' (num y m d-first) h1 g1 i.1 i.2 (by rw[e];exact i'.1) (by rw[e];exact i'.2);subst hy;unfold num at e;have hm:m=m':=c0n y m m' (cum y m+d-1) h3 h4 g3 g4 (by omega) (by omega) (by omega) (by omega);subst hm;exact⟨rfl,rfl,by omega⟩
theorem c3X(y m d:Int)(h:ok y m d=true):first<=num y m d/\num y m d<=last:=by
 obtain⟨h1,h2,h3,h4,h5,h6⟩:=(a2K y m d).1 h;have i:=a9p y m d h;have a:=a9T (y+1) 10000 (by omega) (by omega);have b:=c5D y h1 (by omega);have c:=b7t;unfold first at i;unfold first last;omega
end Go.Proofs.YtfigmlfdnickmaaGreatDoor.Cal
namespace Go.Proofs.YtfigmlfdnickmaaGreatDoor.Cal
def yF(g:Int):Int:=if ah (g*400 / 146097+2)<=g then g*400 / 146097+2 else g*400 / 146097+1
def mF(y r:Int):Int:=if r<cum y 2 then 1 else if r<cum y 3 then 2 else if r<cum y 4 then 3 else if r<cum y 5 then 4 else if r<cum y 6 then 5 else if r<cum y 7 then 6 else if r<cum y 8 then 7 else if r<cum y 9 then 8 else if r<cum y 10 then 9 else if r<cum y 11 then 10 else if r<cum y 12 then 11 else 12
theorem c5C(g:Int)(_h:0<=g):g<ah (g*400 / 146097+3):=by unfold ah;omega
theorem c6R(g:Int)(h:0<=g):1<=yF g/\ah (yF g)<=g/\g<ah (yF g+1):=by
 have a:=b7s g h;have b:=c5C g h;unfold yF
 split
 ·refine⟨by omega,by assumption,?_⟩;rw[show g*400 / 146097+2+1=g*400 / 146097+3 from by omega];exact b
 ·refine⟨by omega,a,?_⟩;rw[show g*400 / 146097+1+1=g*400 / 146097+2 from by omega];omega
theorem c6V(y r:Int)(h0:0<=r)(h1:r<cum y 13):1<=mF y r/\mF y r<=12/\cum y (mF y r)<=r/\r<cum y (mF y r+1):=by
 have c1:=a9K y;unfold mF
 by_cases e2:r<cum y 2
 ·rw[if_pos e2];exact⟨by omega,by omega,by omega,e2⟩
 rw[if_neg e2]
 by_cases e3:r<cum y 3
 ·rw[if_pos e3];exact⟨by omega,by omega,by omega,e3⟩
 rw[if_neg e3]
 by_cases e4:r<cum y 4
 ·rw[if_pos e4];exact⟨by omega,by omega,by omega,e4⟩
 rw[if_neg e4]
 by_cases e5:r<cum y 5
 ·rw[if_pos e5];exact⟨by omega,by omega,by omega,e5⟩
 rw[if_neg e5]
 by_cases e6:r<cum y 6
 ·rw[if_pos e6];exact⟨by omega,by omega,by omega,e6⟩
 rw[if_neg e6]
 by_cases e7:r<cum y 7
 ·rw[if_pos e7];exact⟨by omega,by omega,by omega,e7⟩
 rw[if_neg e7]
 by_cases e8:r<cum y 8
 ·rw[if_pos e8];exact⟨by omega,by omega,by omega,e8⟩
 rw[if_neg e8]
 by_cases e9:r<cum y 9
 ·rw[if_pos e9];exact⟨by omega,by omega,by omega,e9⟩
 rw[if_neg e9]
 by_cases e10:r<cum y 10
 ·rw[if_pos e10];exact⟨by omega,by omega,by omega,e10⟩
 rw[if_neg e10]
 by_cases e11:r<cum y 11
 ·rw[if_pos e11];exact⟨by omega,by omega,by omega,e11⟩
 rw[if_neg e11]
 by_cases e12:r<cum y 12
 ·rw[if_pos e12];exact⟨by omega,by omega,by omega,e12⟩
 rw[if_neg e12];exact⟨by omega,by omega,by omega,h1⟩
def yT(n:Int):Int:=yF (n+738885)
def mT(n:Int):Int:=mF (yT n) (n+738885-ah (yT n))
def dT(n:Int):Int:=n+738885-ah (yT n)-cum (yT n) (mT n)+1
theorem c6G(n:Int)(h1:-738885<=n)(h2:n<=2913173):ok (yT n) (mT n) (dT n)=true/\num (yT n) (mT n) (dT n)=n:=by
 have ⟨a1,a2,a3⟩:=c6R (n+738885) (by omega);have s:=b5I (yF (n+738885)) a1
 have hy:yF (n+738885)<=9999:=by
  by_cases h:yF (n+738885)<=9999
  ·exact h
  ·have:=a9T 10000 (yF (n+738885)) (by omega) (by omega);have:=b7t;omega
 have ce:=b5q (yF (n+738885));have ⟨b1,b2,b3,b4⟩:=c6V (yF (n+738885)) (n+738885-ah (yF (n+738885))) (by omega) (by omega);have cs:=a5M (yF (n+738885)) (mF (yF (n+738885)) (n+738885-ah (yF (n+738885)))) b1 b2;refine⟨(a2K _ _ _).2 ?_,?_⟩
 ·unfold dT mT yT;refine⟨a1,hy,b1,b2,by omega,by omega⟩
 ·unfold num dT mT yT first;omega
theorem c4g(y m d n:Int)(h:ok y m d=true)(e:num y m d=n):y=yT n/\m=mT n/\d=dT n:=by
 have b:=c3X y m d h;rw[e] at b;unfold first last at b;have ⟨h1,h2⟩:=c6G n b.1 b.2;exact one y m d _ _ _ h h1 (by rw[e,h2])
end Go.Proofs.YtfigmlfdnickmaaGreatDoor.Cal
namespace Go.Proofs.YtfigmlfdnickmaaGreatDoor.Txt
def dig(c:UInt8):Bool:=decide (48<=(c.toNat:Int)/\(c.toNat:Int)<=57)
def a6j(l:List UInt8):Bool:=l.all dig
def b4R(l:List UInt8):Int:=l.foldl (fun n c=>n*10+((c.toNat:Int)-48)) 0
def low(c:UInt8):Bool:=decide (97<=(c.toNat:Int)/\(c.toNat:Int)<=122)
def c1M(l:List UInt8):Bool:=l.all low
def isNum(l:List UInt8):Bool:=decide (1<=l.length/\l.length<=7) && a6j l
def a1j(l:List UInt8):Bool:=decide (1<=l.length/\l.length<=8) && c1M l
theorem a6k(c:UInt8):dig c=true↔48<=(c.toNat:Int)/\(c.toNat:Int)<=57:=by simp[dig]
theorem c0s(c:UInt8):low c=true↔97<=(c.toNat:Int)/\(c.toNat:Int)<=122:=by simp[low]
theorem a6X(l:List UInt8)(c:UInt8):a6j (l++[c])=(a6j l && dig c):=by simp[a6j]
theorem b3c(l:List UInt8)(c:UInt8):c1M (l++[c])=(c1M l && low c):=by simp[c1M]
theorem b2Y(l:List UInt8)(c:UInt8):b4R (l++[c])=b4R l*10+((c.toNat:Int)-48):=by simp[b4R]
theorem a8N(s:ByteArray)(k:Nat)(h:k<s.size):s.data.toList.take (k+1)=s.data.toList.take k++[s[k]]:=by
 rw[List.take_succ_eq_append_getElem (by simpa using h)];rfl
theorem a5t(s:ByteArray)(k:Nat)(h:s.size<=k):s.data.toList.take k=s.data.toList:=List.take_of_length_le (by simpa using h)
theorem a1d(s:ByteArray):s.data.toList.length=s.size:=by simp
theorem a8h(l:List UInt8)(k:Nat)(h:a6j (l.take k)=false):a6j l=false:=by
 unfold a6j at *;rw[List.all_eq_false] at *;obtain⟨x,hx,h⟩:=h;exact⟨x,List.mem_of_mem_take hx,h⟩
theorem b3d(l:List UInt8)(k:Nat)(h:c1M (l.take k)=false):c1M l=false:=by
 unfold c1M at *;rw[List.all_eq_false] at *;obtain⟨x,hx,h⟩:=h;exact⟨x,List.mem_of_mem_take hx,h⟩
theorem c5i(l:List UInt8):∀ (k:Nat)(n:Int),0<=n->n<10 ^ k->a6j l=true->0<=l.foldl (fun n c=>n*10+((c.toNat:Int)-48)) n/\l.foldl (fun n c=>n*10+((c.toNat:Int)-48)) n<10 ^ (k+l.length):=by
 induction l with
 |nil=>intro k n h0 h1 _;exact⟨h0,h1⟩
 |cons c l ih =>
  intro k n h0 h1 hd;simp only[a6j,List.all_cons,Bool.and_eq_true] at hd;have hc:=(a6k c).1 hd.1;have:=ih (k+1) (n*10+((c.toNat:Int)-48)) (by omega) (by rw[Int.pow_succ];omega) hd.2;simp only[List.foldl_cons,List.length_cons];rw[show k+(l.length+1)=k+1+l.length from by omega];exact this
theorem c0i(l:List UInt8)(h:a6j l=true)(hl:l.length<=7):0<=b4R l/\b4R l<=9999999:=by
 have b:=c5i l 0 0 (by omega) (by decide) h;have q:∀ k:Nat,k<8->(10:Int) ^ k<=10000000:=by decide
 have p:=q (0+l.length) (by omega);unfold b4R;omega
theorem b0J{l:List UInt8}(h1:1<=l.length)(h2:l.length<=7)(h3:a6j l=true):isNum l=true:=by
 simp[isNum,h1,h2,h3]
theorem b3o{l:List UInt8}(h:¬ (1<=l.length/\l.length<=7)):isNum l=false:=by
 unfold isNum;rw[decide_eq_false h];rfl
theorem b3q{l:List UInt8}(h:a6j l=false):isNum l=false:=by simp[isNum,h]
theorem b3p(l:List UInt8):isNum l=true↔(1<=l.length/\l.length<=7)/\a6j l=true:=by simp[isNum]
theorem b5b{l:List UInt8}(h1:1<=l.length)(h2:l.length<=8)(h3:c1M l=true):a1j l=true:=by
 simp[a1j,h1,h2,h3]
theorem b0K{l:List UInt8}(h:¬ (1<=l.length/\l.length<=8)):a1j l=false:=by
 unfold a1j;rw[decide_eq_false h];rfl
theorem b8r{l:List UInt8}(h:c1M l=false):a1j l=false:=by simp[a1j,h]
def a2f(l:List UInt8):Int:=if isNum l then b4R l else 0
theorem a2B(l:List UInt8):0<=a2f l/\a2f l<=9999999:=by
 unfold a2f
 split
 ·rename_i h
  have:=(b3p l).1 h;exact c0i l this.2 this.1.2
 ·omega
end Go.Proofs.YtfigmlfdnickmaaGreatDoor.Txt
namespace Go.Proofs.YtfigmlfdnickmaaGreatDoor.Txt
def a0V(s:ByteArray)(i:Nat):Int:=((s.data.toList.getD i 0).toNat:Int)
theorem a2W(s:ByteArray)(i:Nat)(h:i<s.size):a0V s i=(s[i].toNat:Int):=by
 unfold a0V;rw[List.getD_eq_getElem?_getD,List.getElem?_eq_getElem (by simpa using h)];rfl
def part(s:ByteArray)(a b:Nat):List UInt8:=(s.extract a b).data.toList
def a3a(s:ByteArray):Bool:=decide (s.size=5/\a0V s 2=58/\isNum (part s 0 2)=true/\isNum (part s 3 5)=true/\a2f (part s 0 2)<=23/\a2f (part s 3 5)<=59)
def a6J(s:ByteArray):Int:=if a3a s then a2f (part s 0 2)*60+a2f (part s 3 5) else 0
def a5j(s:ByteArray):Bool:=decide (s.size=10/\a0V s 4=45/\a0V s 7=45/\isNum (part s 0 4)=true/\isNum (part s 5 7)=true/\isNum (part s 8 10)=true/\Cal.ok (a2f (part s 0 4)) (a2f (part s 5 7)) (a2f (part s 8 10))=true)
def a2o(s:ByteArray):Int:=if a5j s then Cal.num (a2f (part s 0 4)) (a2f (part s 5 7)) (a2f (part s 8 10)) else 0
def a2y(s:ByteArray):Bool:=decide (a5j s=true/\0<=a2o s/\a2o s<728)
theorem a5D(h:¬ (s.size=5/\a0V s 2=58/\isNum (part s 0 2)=true/\isNum (part s 3 5)=true/\a2f (part s 0 2)<=23/\a2f (part s 3 5)<=59)):a3a s=false:=decide_eq_false h
theorem a6l(h:¬ (s.size=10/\a0V s 4=45/\a0V s 7=45/\isNum (part s 0 4)=true/\isNum (part s 5 7)=true/\isNum (part s 8 10)=true/\Cal.ok (a2f (part s 0 4)) (a2f (part s 5 7)) (a2f (part s 8 10))=true)):a5j s=false:=decide_eq_false h
theorem b6G(hs:s.size=5)(hb:a0V s 2=58):a3a s=(isNum (part s 0 2) && isNum (part s 3 5) && decide (a2f (part s 0 2)<=23) && decide (a2f (part s 3 5)<=59)):=by
 rw[Bool.eq_iff_iff];simp[a3a,hs,hb,and_assoc]
theorem c1h(hs:s.size=10)(hb:a0V s 4=45)(hc:a0V s 7=45):a5j s=(isNum (part s 0 4) && isNum (part s 5 7) && isNum (part s 8 10) && Cal.ok (a2f (part s 0 4)) (a2f (part s 5 7)) (a2f (part s 8 10))):=by
 rw[Bool.eq_iff_iff];simp[a5j,hs,hb,hc,and_assoc]
theorem c4W(s:ByteArray):0<=a6J s/\a6J s<=1439:=by
 unfold a6J
 split
 ·rename_i h
  have h:=of_decide_eq_true h;have:=a2B (part s 0 2);have:=a2B (part s 3 5);omega
 ·omega
theorem c3w(s:ByteArray):-738885<=a2o s/\a2o s<=2913173:=by
 unfold a2o
 split
 ·rename_i h
  have h:=of_decide_eq_true h;have b:=Cal.c3X _ _ _ h.2.2.2.2.2.2;unfold Cal.first Cal.last at b;exact b
 ·omega
end Go.Proofs.YtfigmlfdnickmaaGreatDoor.Txt
