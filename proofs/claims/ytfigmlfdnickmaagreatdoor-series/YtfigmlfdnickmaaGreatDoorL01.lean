import Derived.Test.YtfigmlfdnickmaaGreatDoorProg
import Derived.WalkKit
import Derived.WalkSpells
import Derived.WalkLawsBesides
import Derived.Deep.QuietTactic
import Derived.BigQuiet
import Derived.Deep.RegionHeld3
import Derived.Deep.RegionWith
import Derived.Deep.CutRange
set_option maxRecDepth 100000
set_option maxHeartbeats 8000000
variable{a c hi level lo:Int}{F F' Fl Fr G:List Nat}{M b bk n o:Nat}{pl pr u:Option Go.Addr}{p v:Go.Value}{X w w' w1 w2 w4:Go.World}
namespace Go.Proofs.YtfigmlfdnickmaaGreatDoor
open Go.RowKit
theorem zq(n:Nat):n<=n:=Nat.le_refl n
theorem zS(w:World)(a b:Addr)(v:Value)(h:a≠b):(w.setCell a v).cell? b=w.cell? b:=w.cell?_setCell_other a b v h
theorem zr(b:Nat)(w:World):Below b w w:=Below.refl b w
theorem zL{m k:Nat}(h:n<m)(g:m<=k):n<k:=Nat.lt_of_lt_of_le h g
theorem zm(w:World)(a:Addr)(v:Value){u:Value}(h:w.cell? a=some u):(w.setCell a v).cell? a=some v:=w.cell?_setCell_same a v h
theorem zF(w:World)(a b:Addr)(v:Value):(w.setCell a v).frozen? b=w.frozen? b:=w.frozen?_setCell a b v
theorem zo{a:Addr}(h:w'.heap[a.block]?=w.heap[a.block]?):w'.cell? a=w.cell? a:=World.cell?_of_block h
theorem zN(n:Nat):0<=n:=n.zero_le
theorem zg{α:Type _}{l:List α}(h:n<l.length):l[n]∈l:=List.getElem_mem h
theorem zA{a b:Prop}(h:a)(k:b):a/\b:=⟨h,k⟩
theorem a2C{a b:Bool}(h:a=b):Ending.returned (.bool a)=.returned (.bool b):=by rw[h]
theorem a1L{k:IntKind}{b:Int}(h:a=b):Ending.returned (.int k a)=.returned (.int k b):=by rw[h]
theorem a0b{p:Prop}(h:p):Hid p:=h
theorem a0i{x:Int}(h1:-1000000000000<=x)(h2:x<=1000000000000):IntKind.i64.wrap x=x:=by
 rw[IntKind.wrap_i64];omega
theorem a7z(x y:Int):(if x<y then y else x)=max x y:=by split <;> omega
theorem c0o(x y:Int):(if y<x then y else x)=min x y:=by split <;> omega
theorem c0q(c x y:Int):(c+if x<y then y else x)=c+max x y:=by split <;> omega
theorem c6g(c x y:Int):(c+if y<x then y else x)=c+min x y:=by split <;> omega
theorem a0j{B:Nat}{w'':World}(h:Below B w w')(k:Below w'.heap.size w' w'')(hB:B<=w.heap.size):Below B w w'':=h.trans (k.mono (Nat.le_trans hB h.size))
theorem a0q(w:World):Below w.heap.size w w.drew:=(zr _ _).drew
structure Off(F:List Nat)(w w':World):Prop where
 os:w'.os=w.os
 tape:w'.tape=w.tape
 output:w'.output=w.output
 size:w.heap.size<=w'.heap.size
 block:∀ k,k<w.heap.size->k ∉ F->w'.heap[k]?=w.heap[k]?
theorem Off.refl(F:List Nat)(w:World):Off F w w:=⟨rfl,rfl,rfl,Nat.le_refl _,fun _ _ _=>rfl⟩
theorem Off.trans'{a b c:World}(h:Off F a b)(k:Off G b c)(hg:∀ x∈G,x∈F\/a.heap.size<=x):Off F a c :=
 ⟨k.os.trans h.os,k.tape.trans h.tape,k.output.trans h.output,Nat.le_trans h.size k.size,fun i hi hr =>
  (k.block i (zL hi h.size) (fun hx=>by rcases hg i hx with h1|h1;exact hr h1;omega)).trans (h.block i hi hr)⟩
theorem Off.trans{a b c:World}(h:Off F a b)(k:Off F b c):Off F a c:=h.trans' k (fun _ hx=>.inl hx)
theorem Off.mono{a b:World}(h:Off F a b)(hs:∀ x∈F,x∈G):Off G a b :=
 ⟨h.os,h.tape,h.output,h.size,fun i hi hr=>h.block i hi (fun hx=>hr (hs i hx))⟩
theorem Off.of_below(h:Below w.heap.size w w'):Off F w w':=⟨h.os,h.tape,h.output,h.size,fun k hk _=>h.block k hk⟩
theorem Off.drew(h:Off F w w'):Off F w w'.drew:=⟨h.os,h.tape,h.output,h.size,h.block⟩
theorem Off.alloc(h:Off F w w')(o:Obj):Off F w (w'.alloc o) :=
 h.trans (Off.of_below ((zr _ _).alloc (zq _) o))
theorem Off.set0(R:Nat)(w':World)(o:Nat)(v:Value):Off [R] w' (w'.setCell ⟨R,o,none⟩ v) :=
 ⟨(Below.setCell (B:=0) (Below.refl 0 w') (zN _) v).os,(Below.setCell (B:=0) (Below.refl 0 w') (zN _) v).tape,(Below.setCell (B:=0) (Below.refl 0 w') (zN _) v).output,(Below.setCell (B:=0) (Below.refl 0 w') (p:=⟨R,o,none⟩) (zN _) v).size,fun k _ hr=>Below.heap_setCell w' _ v k (by simpa using hr)⟩
theorem Off.setCell(h:Off F w w'){R:Nat}(hR:R∈F\/w.heap.size<=R)(o:Nat)(v:Value):Off F w (w'.setCell ⟨R,o,none⟩ v) :=
 h.trans' (Off.set0 R w' o v) (fun x hx=>by simp at hx;subst hx;exact hR)
theorem Off.cell(h:Off F w w')(hne:b ∉ F)(hc:w.cell? ⟨b,o,none⟩=some v):w'.cell? ⟨b,o,none⟩=some v :=
 (zo (w:=w) (h.block b (World.block_lt_of_cell? _ _ hc) hne)).trans hc
theorem Off.frozen(h:Off F w w')(hne:b ∉ F)(hb:b<w.heap.size):w'.frozen? ⟨b,o,none⟩=w.frozen? ⟨b,o,none⟩:=by
 have e:=h.block b hb hne;simp only[World.frozen?,e]
theorem a0a(h:Below w.heap.size w w')(hc:w.cell? ⟨b,o,none⟩=some v):w'.cell? ⟨b,o,none⟩=some v :=
 (h.cell (p:=⟨b,o,none⟩) (World.block_lt_of_cell? _ _ hc)).trans hc
namespace Lev
inductive T where
 |nil:T
 |node (a:Int) (l r:T):T
def top:T->Int
 |.nil=>0
 |.node a l r=>a+max (top l) (top r)
def bot:T->Int
 |.nil=>0
 |.node a l r=>a+min (bot l) (bot r)
def isNil:T->Bool
 |.nil=>true
 |.node ..=>false
def val:T->Int
 |.nil=>0
 |.node a _ _=>a
def fst:T->T
 |.nil=>.nil
 |.node _ l _=>l
def snd:T->T
 |.nil=>.nil
 |.node _ _ r=>r
def flat(t:T):Bool:=isNil (fst t) && isNil (snd t)
def mk(a:Int)(l r:T):T:=if a=0/\isNil l=true/\isNil r=true then .nil else .node a l r
theorem a3f{t:T}(h:isNil t=true):t=.nil:=by cases t <;> simp_all [isNil]
@[simp] theorem val_mk (a:Int) (l r:T):val (mk a l r)=a:=by
 unfold mk;split
 ·rename_i h;simp[val,h.1]
 ·rfl
@[simp] theorem fst_mk (a:Int) (l r:T):fst (mk a l r)=l:=by
 unfold mk;split
 ·rename_i h;rw[a3f h.2.1];rfl
 ·rfl
@[simp] theorem snd_mk (a:Int) (l r:T):snd (mk a l r)=r:=by
 unfold mk;split
 ·rename_i h;rw[a3f h.2.2];rfl
 ·rfl
def mid(lo hi:Int):Int:=(lo+hi) / 2
def apart(lo hi a b:Int):Bool:=decide (hi<=a) || decide (b<=lo)
def within(lo hi a b:Int):Bool:=decide (a<=lo) && decide (hi<=b)
theorem a3A{b:Int}:apart lo hi a b=true↔hi<=a\/b<=lo:=by simp[apart]
theorem a1r{b:Int}:apart lo hi a b=false↔a<hi/\lo<b:=by
 rw[<- Bool.not_eq_true,a3A];omega
theorem a3k{b:Int}:within lo hi a b=true↔a<=lo/\hi<=b:=by simp[within]
theorem a3W{b:Int}:within lo hi a b=false↔¬ (a<=lo/\hi<=b):=by
 rw[<- Bool.not_eq_true,a3k]
def a6q:Nat->T->Int->Int->Int->Int->Int->T
 |n,t,lo,hi,a,b,u =>
  if apart lo hi a b then t
  else if within lo hi a b then mk (val t+u) (fst t) (snd t)
  else match n with
   |0=>t
   |n+1=>mk (val t) (a6q n (fst t) lo (mid lo hi) a b u) (a6q n (snd t) (mid lo hi) hi a b u)
def canon:Nat->(List Bool->Int)->Int->Int->T
 |0,A,_,_=>mk (A []) .nil .nil
 |n+1,A,lo,hi =>
  if hi-lo<=1 then mk (A []) .nil .nil
  else mk (A []) (canon n (fun p=>A (false :: p)) lo (mid lo hi)) (canon n (fun p=>A (true :: p)) (mid lo hi) hi)
def chi:Int->Int->Int->Int->List Bool->Int
 |lo,hi,a,b,[]=>if apart lo hi a b then 0 else if within lo hi a b then 1 else 0
 |lo,hi,a,b,false :: p=>if apart lo hi a b then 0 else if within lo hi a b then 0 else chi lo (mid lo hi) a b p
 |lo,hi,a,b,true :: p=>if apart lo hi a b then 0 else if within lo hi a b then 0 else chi (mid lo hi) hi a b p
theorem a9N{b:Int}(h:apart lo hi a b=true):∀ p,chi lo hi a b p=0
 |[]=>by simp[chi,h]
 |false :: p=>by simp[chi,h]
 |true :: p=>by simp[chi,h]
theorem c1r:∀ (p:List Bool)(lo hi a b:Int),0<=chi lo hi a b p/\chi lo hi a b p<=1
 |[],lo,hi,a,b=>by simp only[chi];split <;> (try split) <;> omega
 |false :: p,lo,hi,a,b=>by
   simp only[chi];split
   ·omega
   ·split
    ·omega
    ·exact c1r p _ _ _ _
 |true :: p,lo,hi,a,b=>by
   simp only[chi];split
   ·omega
   ·split
    ·omega
    ·exact c1r p _ _ _ _
theorem b1B(h:hi-lo<=2 ^ (n+1)):mid lo hi-lo<=2 ^ n/\hi-mid lo hi<=2 ^ n:=by
 unfold mid;rw[Int.pow_succ] at h;omega
theorem b5v:∀ {A B:List Bool->Int}{lo hi:Int},(∀ p,A p=B p)->canon n A lo hi=canon n B lo hi:=by
 intro A B lo hi h;rw[show A=B from funext h]
theorem b8T:∀ (n:Nat)(A:List Bool->Int)(lo hi a b u:Int),lo<hi->hi-lo<=2 ^ n->a<b ->
  a6q n (canon n A lo hi) lo hi a b u=canon n (fun p=>A p+u*chi lo hi a b p) lo hi:=by
 intro n
 induction n with
 |zero =>
  intro A lo hi a b u h1 h2 h3;have h2:hi-lo<=1:=by simpa using h2
  unfold a6q
  split
  ·rename_i h;simp[canon,a9N h]
  ·rename_i h
   rw[Bool.not_eq_true,a1r] at h;have hw:within lo hi a b=true:=a3k.2 (by omega);have hp:apart lo hi a b=false:=a1r.2 h;rw[if_pos hw];simp[canon,chi,hw,hp]
 |succ n ih =>
  intro A lo hi a b u h1 h2 h3;unfold a6q
  split
  ·rename_i h;exact b5v (by intro p;simp[a9N h])
  ·rename_i h
   have hp:apart lo hi a b=false:=by simpa using h
   split
   ·rename_i hw
    simp only[canon]
    split
    ·simp[chi,hp,hw]
    ·simp[chi,hp,hw]
   ·rename_i hw
    have hw:within lo hi a b=false:=by simpa using hw
    have h4:=a1r.1 hp;have h5:=a3W.1 hw;have h6:¬ hi-lo<=1:=by omega
    have hm:lo<mid lo hi/\mid lo hi<hi:=by unfold mid;omega
    have hh:=b1B h2;simp only[canon,if_neg h6,val_mk,fst_mk,snd_mk];rw[ih _ _ _ _ _ _ hm.1 hh.1 h3,ih _ _ _ _ _ _ hm.2 hh.2 h3];simp[chi,hp,hw]
def lev:T->Int->Int->Int->Int
 |.nil,_,_,_=>0
 |.node a l r,lo,hi,x=>a+if x<mid lo hi then lev l lo (mid lo hi) x else lev r (mid lo hi) hi x
theorem a5T(a:Int)(l r:T)(lo hi x:Int):lev (mk a l r) lo hi x=a+if x<mid lo hi then lev l lo (mid lo hi) x else lev r (mid lo hi) hi x:=by
 unfold mk;split
 ·rename_i h;rw[a3f h.2.1,a3f h.2.2];simp[lev,h.1]
 ·rfl
def Good:T->Int->Int->Prop
 |.nil,_,_=>True
 |.node a l r,lo,hi=>0<=a/\((isNil l=true/\isNil r=true)\/2<=hi-lo)/\Good l lo (mid lo hi)/\Good r (mid lo hi) hi
theorem Good.mk{l r:T}(h0:0<=a)(h1:(isNil l=true/\isNil r=true)\/2<=hi-lo)(h2:Good l lo (mid lo hi))(h3:Good r (mid lo hi) hi):Good (Lev.mk a l r) lo hi:=by
 unfold Lev.mk;split
 ·trivial
 ·exact⟨h0,h1,h2,h3⟩
theorem b8K:∀ (n:Nat)(A:List Bool->Int)(lo hi:Int),(∀ p,0<=A p)->Good (canon n A lo hi) lo hi:=by
 intro n
 induction n with
 |zero=>intro A lo hi h;exact Good.mk (h _) (.inl ⟨rfl,rfl⟩) trivial trivial
 |succ n ih =>
  intro A lo hi h;simp only[canon]
  split
  ·exact Good.mk (h _) (.inl ⟨rfl,rfl⟩) trivial trivial
  ·exact Good.mk (h _) (.inr (by omega)) (ih _ _ _ (fun p=>h _)) (ih _ _ _ (fun p=>h _))
theorem b1L:∀ (n:Nat)(A:List Bool->Int)(lo hi a b u x:Int),lo<=x->x<hi->hi-lo<=2 ^ n->a<b ->
  lev (canon n (fun p=>A p+u*chi lo hi a b p) lo hi) lo hi x=lev (canon n A lo hi) lo hi x+if a<=x/\x<b then u else 0:=by
 intro n
 induction n with
 |zero =>
  intro A lo hi a b u x h0 h1 h2 h3;have h2:hi-lo<=1:=by simpa using h2
  simp only[canon,a5T,lev,chi]
  cases hp:apart lo hi a b
  ·have h4:=a1r.1 hp;have hw:within lo hi a b=true:=a3k.2 (by omega);rw[hw,if_pos (by omega:a<=x/\x<b)];simp
  ·have h4:=a3A.1 hp;rw[if_neg (by omega:¬ (a<=x/\x<b))];simp
 |succ n ih =>
  intro A lo hi a b u x h0 h1 h2 h3;simp only[canon];have hh:=b1B h2
  cases hp:apart lo hi a b
  ·have h4:=a1r.1 hp
   cases hw:within lo hi a b
   ·have h5:=a3W.1 hw;have h6:¬ hi-lo<=1:=by omega
    rw[if_neg h6,if_neg h6,a5T,a5T];simp only[chi,hp,hw]
    by_cases hx:x<mid lo hi
    ·rw[if_pos hx,if_pos hx];have:=ih (fun p=>A (false :: p)) lo (mid lo hi) a b u x h0 hx hh.1 h3;simp at this ⊢;omega
    ·rw[if_neg hx,if_neg hx];have:=ih (fun p=>A (true :: p)) (mid lo hi) hi a b u x (by omega) h1 hh.2 h3;simp at this ⊢;omega
   ·have h5:=a3k.1 hw;rw[if_pos (by omega:a<=x/\x<b)]
    split
    ·rw[a5T,a5T];simp[chi,hp,hw,lev]
    ·rw[a5T,a5T];simp[chi,hp,hw];omega
  ·have h4:=a3A.1 hp;rw[if_neg (by omega:¬ (a<=x/\x<b))];simp[a9N hp]
theorem b0h:∀ (n:Nat)(lo hi x:Int),lev (canon n (fun _=>0) lo hi) lo hi x=0:=by
 intro n
 induction n with
 |zero=>intro lo hi x;simp[canon,a5T,lev]
 |succ n ih =>
  intro lo hi x;simp only[canon]
  split
  ·simp[a5T,lev]
  ·rw[a5T,ih,ih];simp
theorem a2O:∀ (t:T)(lo hi x:Int),Good t lo hi->0<=lev t lo hi x:=by
 intro t
 induction t with
 |nil=>intro lo hi x _;simp[lev]
 |node a l r ihl ihr =>
  intro lo hi x h;have h1:=ihl lo (mid lo hi) x h.2.2.1;have h2:=ihr (mid lo hi) hi x h.2.2.2;have h3:=h.1;simp only[lev];split <;> omega
theorem a7g{t:T}(h:isNil t=true):top t=0/\bot t=0:=by rw[a3f h];exact⟨rfl,rfl⟩
theorem a7A{t:T}(h:isNil t=true)(lo hi x:Int):lev t lo hi x=0:=by rw[a3f h];rfl
theorem a8H:∀ (t:T)(lo hi:Int),lo<hi->Good t lo hi->(∀ x,lo<=x->x<hi->lev t lo hi x<=top t)/\∃ x,lo<=x/\x<hi/\lev t lo hi x=top t:=by
 intro t
 induction t with
 |nil=>intro lo hi h _;exact⟨fun x _ _=>by simp[lev,top],lo,by omega,h,rfl⟩
 |node a l r ihl ihr =>
  intro lo hi h g;rcases g.2.1 with ⟨e1,e2⟩|h2
  ·have t1:=a7g e1;have t2:=a7g e2;simp only[lev,top,a7A e1,a7A e2,t1,t2];exact⟨fun x _ _=>by split <;> omega,lo,by omega,h,by split <;> omega⟩
  ·have hm:lo<mid lo hi/\mid lo hi<hi:=by unfold mid;omega
   obtain⟨l1,x1,l2,l3,l4⟩:=ihl lo (mid lo hi) hm.1 g.2.2.1;obtain⟨r1,x2,r2,r3,r4⟩:=ihr (mid lo hi) hi hm.2 g.2.2.2;simp only[lev,top];refine⟨fun x a1 a2=>?_,?_⟩
   ·split
    ·have:=l1 x a1 (by omega);omega
    ·have:=r1 x (by omega) a2;omega
   ·by_cases hc:top r<=top l
    ·exact⟨x1,l2,by omega,by rw[if_pos l3];omega⟩
    ·exact⟨x2,by omega,r3,by rw[if_neg (by omega)];omega⟩
theorem c6K:∀ (t:T)(lo hi:Int),lo<hi->Good t lo hi->(∀ x,lo<=x->x<hi->bot t<=lev t lo hi x)/\∃ x,lo<=x/\x<hi/\lev t lo hi x=bot t:=by
 intro t
 induction t with
 |nil=>intro lo hi h _;exact⟨fun x _ _=>by simp[lev,bot],lo,by omega,h,rfl⟩
 |node a l r ihl ihr =>
  intro lo hi h g;rcases g.2.1 with ⟨e1,e2⟩|h2
  ·have t1:=a7g e1;have t2:=a7g e2;simp only[lev,bot,a7A e1,a7A e2,t1,t2];exact⟨fun x _ _=>by split <;> omega,lo,by omega,h,by split <;> omega⟩
  ·have hm:lo<mid lo hi/\mid lo hi<hi:=by unfold mid;omega
   obtain⟨l1,x1,l2,l3,l4⟩:=ihl lo (mid lo hi) hm.1 g.2.2.1;obtain⟨r1,x2,r2,r3,r4⟩:=ihr (mid lo hi) hi hm.2 g.2.2.2;simp only[lev,bot];refine⟨fun x a1 a2=>?_,?_⟩
   ·split
    ·have:=l1 x a1 (by omega);omega
    ·have:=r1 x (by omega) a2;omega
   ·by_cases hc:bot l<=bot r
    ·exact⟨x1,l2,by omega,by rw[if_pos l3];omega⟩
    ·exact⟨x2,by omega,r3,by rw[if_neg (by omega)];omega⟩
def a2g:T->Int->Int->Int->Int->Int
 |.nil,_,_,_,_=>0
 |.node c l r,lo,hi,a,b =>
  if apart lo hi a b then 0
  else if within lo hi a b then c+max (top l) (top r)
  else c+max (a2g l lo (mid lo hi) a b) (a2g r (mid lo hi) hi a b)
theorem a4p{t:T}{b:Int}(h:apart lo hi a b=true):a2g t lo hi a b=0:=by
 cases t <;> simp[a2g,h]
theorem b6E:∀ (t:T)(lo hi a b:Int),lo<hi->a<b->Good t lo hi->apart lo hi a b=false ->
  0<=a2g t lo hi a b/\(∀ x,lo<=x->x<hi->a<=x->x<b->lev t lo hi x<=a2g t lo hi a b)/\∃ x,lo<=x/\x<hi/\a<=x/\x<b/\lev t lo hi x=a2g t lo hi a b:=by
 intro t
 induction t with
 |nil =>
  intro lo hi a b h h' _ hp;have:=a1r.1 hp;exact⟨Int.le_refl _,fun x _ _ _ _=>by simp[lev,a2g],max lo a,by omega,by omega,by omega,by omega,rfl⟩
 |node c l r ihl ihr =>
  intro lo hi a b h h' g hp;have hp':=a1r.1 hp
  cases hw:within lo hi a b
  ·have hw':=a3W.1 hw;have hm:lo<mid lo hi/\mid lo hi<hi:=by unfold mid;omega
   have e:a2g (.node c l r) lo hi a b=c+max (a2g l lo (mid lo hi) a b) (a2g r (mid lo hi) hi a b):=by simp[a2g,hp,hw]
   have g0:=g.1;rw[e];simp only[lev]
   cases pl:apart lo (mid lo hi) a b
   ·obtain⟨l0,l1,x1,l2,l3,l4,l5,l6⟩:=ihl lo (mid lo hi) a b hm.1 h' g.2.2.1 pl
    cases pr:apart (mid lo hi) hi a b
    ·obtain⟨r0,r1,x2,r2,r3,r4,r5,r6⟩:=ihr (mid lo hi) hi a b hm.2 h' g.2.2.2 pr;refine⟨by omega,fun x a1 a2 a3 a4=>?_,?_⟩
     ·split
      ·have:=l1 x a1 (by omega) a3 a4;omega
      ·have:=r1 x (by omega) a2 a3 a4;omega
     ·by_cases hc:a2g r (mid lo hi) hi a b<=a2g l lo (mid lo hi) a b
      ·exact⟨x1,l2,by omega,l4,l5,by rw[if_pos l3];omega⟩
      ·exact⟨x2,by omega,r3,r4,r5,by rw[if_neg (by omega)];omega⟩
    ·have pr':=a3A.1 pr;have z:=a4p (t:=r) pr;refine⟨by omega,fun x a1 a2 a3 a4=>?_,x1,l2,by omega,l4,l5,by rw[if_pos l3];omega⟩;rw[if_pos (by omega)];have:=l1 x a1 (by omega) a3 a4;omega
   ·have pl':=a3A.1 pl;have z:=a4p (t:=l) pl;have pr:apart (mid lo hi) hi a b=false:=a1r.2 (by omega);obtain⟨r0,r1,x2,r2,r3,r4,r5,r6⟩:=ihr (mid lo hi) hi a b hm.2 h' g.2.2.2 pr;refine⟨by omega,fun x a1 a2 a3 a4=>?_,x2,by omega,r3,r4,r5,by rw[if_neg (by omega)];omega⟩;rw[if_neg (by omega)];have:=r1 x (by omega) a2 a3 a4;omega
  ·have hw':=a3k.1 hw;have e:a2g (.node c l r) lo hi a b=top (.node c l r):=by simp[a2g,hp,hw,top]
   obtain⟨t1,x,t2,t3,t4⟩:=a8H (.node c l r) lo hi h g;rw[e];have:=a2O (.node c l r) lo hi x g;exact⟨by omega,fun y a1 a2 _ _=>t1 y a1 a2,x,t2,t3,by omega,by omega,t4⟩
def a2X(up:Bool)(level:Int)(t:T)(c:Int):Bool:=if up then decide (level<c+top t) else decide (c+bot t<=level)
def want(up:Bool)(level x:Int):Prop:=if up then level<x else x<=level
def fm(up:Bool)(level:Int):T->Int->Int->Int->Int->Int->Option Int
 |.nil,lo,hi,a,b,c=>if apart lo hi a b || !a2X up level .nil c then none else some (max lo a)
 |.node v l r,lo,hi,a,b,c =>
  if apart lo hi a b || !a2X up level (.node v l r) c then none
  else if isNil l && isNil r then some (max lo a)
  else match fm up level l lo (mid lo hi) a b (c+v) with
   |some x=>some x
   |none=>fm up level r (mid lo hi) hi a b (c+v)
theorem b5N{up:Bool}{t:T}(h:a2X up level t c=false)(hl:lo<hi)(g:Good t lo hi):∀ x,lo<=x->x<hi->¬ want up level (c+lev t lo hi x):=by
 intro x h1 h2
 cases up
 ·have:=(c6K t lo hi hl g).1 x h1 h2;simp[a2X,want] at h ⊢;omega
 ·have:=(a8H t lo hi hl g).1 x h1 h2;simp[a2X,want] at h ⊢;omega
theorem b0p{up:Bool}{t:T}(h:a2X up level t c=true)(hf:∀ x,lev t lo hi x=val t)(ht:top t=val t)(hb:bot t=val t):∀ x,want up level (c+lev t lo hi x):=by
 intro x;rw[hf x]
 cases up
 ·simp[a2X,want,hb] at h ⊢;omega
 ·simp[a2X,want,ht] at h ⊢;omega
def a6o(P:Int->Prop)(lo hi a b:Int):Option Int->Prop
 |none=>∀ x,lo<=x->x<hi->a<=x->x<b->¬ P x
 |some x=>lo<=x/\x<hi/\a<=x/\x<b/\P x/\∀ y,lo<=y->y<x->a<=y->¬ P y
theorem c6r(up:Bool)(level:Int):∀ (t:T)(lo hi a b c:Int),lo<hi->a<b->Good t lo hi->a6o (fun x=>want up level (c+lev t lo hi x)) lo hi a b (fm up level t lo hi a b c):=by
 intro t
 induction t with
 |nil =>
  intro lo hi a b c h h' g;unfold fm
  cases hp:apart lo hi a b
  ·have hp':=a1r.1 hp
   cases hw:a2X up level .nil c
   ·simp only[Bool.false_or,Bool.not_false,if_true];exact fun x h1 h2 _ _=>b5N hw h g x h1 h2
   ·simp only[Bool.false_or,Bool.not_true,Bool.false_eq_true,if_false];exact⟨by omega,by omega,by omega,by omega,b0p hw (fun _=>rfl) rfl rfl _,fun y _ _ _=>by omega⟩
  ·have hp':=a3A.1 hp;simp only[Bool.true_or,if_true];exact fun x _ _ _ _=>by omega
 |node v l r ihl ihr =>
  intro lo hi a b c h h' g;unfold fm
  cases hp:apart lo hi a b
  ·have hp':=a1r.1 hp
   cases hw:a2X up level (.node v l r) c
   ·simp only[Bool.false_or,Bool.not_false,if_true];exact fun x h1 h2 _ _=>b5N hw h g x h1 h2
   ·simp only[Bool.false_or,Bool.not_true,Bool.false_eq_true,if_false]
    cases hf:isNil l && isNil r
    ·simp only[Bool.false_eq_true,if_false]
     have h2:2<=hi-lo:=by
      rcases g.2.1 with ⟨e1,e2⟩|h2
      ·simp[e1,e2] at hf
      ·exact h2
     have hm:lo<mid lo hi/\mid lo hi<hi:=by unfold mid;omega
     have kl:=ihl lo (mid lo hi) a b (c+v) hm.1 h' g.2.2.1;have kr:=ihr (mid lo hi) hi a b (c+v) hm.2 h' g.2.2.2
     cases el:fm up level l lo (mid lo hi) a b (c+v) with
     |some x =>
      rw[el] at kl;obtain⟨k1,k2,k3,k4,k5,k6⟩:=kl;refine⟨k1,by omega,k3,k4,?_,fun y a1 a2 a3=>?_⟩
      ·show want up level (c+lev (.node v l r) lo hi x);simp only[lev];rw[if_pos k2,<- Int.add_assoc];exact k5
      ·show ¬ want up level (c+lev (.node v l r) lo hi y);simp only[lev];rw[if_pos (by omega),<- Int.add_assoc];exact k6 y a1 a2 a3
     |none =>
      rw[el] at kl;have kl:∀ x,lo<=x->x<mid lo hi->a<=x->x<b->¬ want up level (c+v+lev l lo (mid lo hi) x):=kl
      cases er:fm up level r (mid lo hi) hi a b (c+v) with
      |some x =>
       rw[er] at kr;obtain⟨k1,k2,k3,k4,k5,k6⟩:=kr;refine⟨by omega,k2,k3,k4,?_,fun y a1 a2 a3=>?_⟩
       ·show want up level (c+lev (.node v l r) lo hi x);simp only[lev];rw[if_neg (by omega),<- Int.add_assoc];exact k5
       ·show ¬ want up level (c+lev (.node v l r) lo hi y);simp only[lev]
        by_cases hy:y<mid lo hi
        ·rw[if_pos hy,<- Int.add_assoc];exact kl y a1 hy a3 (by omega)
        ·rw[if_neg hy,<- Int.add_assoc];exact k6 y (by omega) a2 a3
      |none =>
       rw[er] at kr;have kr:∀ x,mid lo hi<=x->x<hi->a<=x->x<b->¬ want up level (c+v+lev r (mid lo hi) hi x):=kr;intro y a1 a2 a3 a4;show ¬ want up level (c+lev (.node v l r) lo hi y);simp only[lev]
       by_cases hy:y<mid lo hi
       ·rw[if_pos hy,<- Int.add_assoc];exact kl y a1 hy a3 a4
       ·rw[if_neg hy,<- Int.add_assoc];exact kr y (by omega) a2 a3 a4
    ·simp only[if_true];have e1:isNil l=true:=by revert hf;cases isNil l <;> simp
     have e2:isNil r=true:=by revert hf;cases isNil r <;> simp
     have t1:=a7g e1;have t2:=a7g e2;refine⟨by omega,by omega,by omega,by omega,?_,fun y _ _ _=>by omega⟩;exact b0p hw (fun x=>by simp only[lev,val,a7A e1,a7A e2];split <;> omega) (by simp only[top,val];omega) (by simp only[bot,val];omega) _
  ·have hp':=a3A.1 hp;simp only[Bool.true_or,if_true];exact fun x _ _ _ _=>by omega
end Lev
def a2d(w:World):Lev.T->Value->List Nat->Prop
 |.nil,p,F=>p=.pointer none/\F=[]
 |.node a l r,p,F=>∃ (b:Nat) (pl pr:Option Addr) (Fl Fr:List Nat),p=.pointer (some ⟨b,0,none⟩)/\w.cell? ⟨b,0,none⟩=some (.int .i64 a)/\w.cell? ⟨b,1,none⟩=some (.int .i64 (Lev.top (.node a l r)))/\w.cell? ⟨b,2,none⟩=some (.int .i64 (Lev.bot (.node a l r)))/\w.cell? ⟨b,3,none⟩=some (.pointer pl)/\w.cell? ⟨b,4,none⟩=some (.pointer pr)/\(∀ o,w.frozen? ⟨b,o,none⟩=false)/\a2d w l (.pointer pl) Fl/\a2d w r (.pointer pr) Fr/\F=b :: (Fl++Fr)/\F.Nodup
theorem a2d.lt{w:World}:∀ {t:Lev.T}{p:Value}{F:List Nat},a2d w t p F->∀ k∈F,k<w.heap.size
 |.nil,p,F,h,k,hk=>by rw[h.2] at hk;cases hk
 |.node a l r,p,F,h,k,hk=>by
  obtain⟨b,pl,pr,Fl,Fr,rfl,c0,c1,c2,c3,c4,fz,hl,hr,rfl,nd⟩:=h;rcases List.mem_cons.1 hk with rfl|hk
  ·exact World.block_lt_of_cell? _ _ c0
  ·rcases List.mem_append.1 hk with hk|hk
   ·exact a2d.lt hl k hk
   ·exact a2d.lt hr k hk
theorem a2d.off{G:List Nat}{w w':World}(h:Off G w w'):∀ {t:Lev.T}{p:Value}{F:List Nat},a2d w t p F->(∀ k∈F,k ∉ G)->a2d w' t p F
 |.nil,p,F,hr,_=>hr
 |.node a l r,p,F,hr,hd=>by
  obtain⟨b,pl,pr,Fl,Fr,rfl,c0,c1,c2,c3,c4,fz,hl,hr,rfl,nd⟩:=hr;have hb:b ∉ G:=hd b (by simp);exact⟨b,pl,pr,Fl,Fr,rfl,h.cell hb c0,h.cell hb c1,h.cell hb c2,h.cell hb c3,h.cell hb c4,fun o=>(h.frozen hb (World.block_lt_of_cell? _ _ c0)).trans (fz o),a2d.off h hl (fun k hk=>hd k (by simp[hk])),a2d.off h hr (fun k hk=>hd k (by simp[hk])),rfl,nd⟩
theorem a2d.same{t:Lev.T}(h:a2d w t p F)(k:Off [] w w'):a2d w' t p F:=h.off k (fun _ _=>by simp)
theorem a2d.nodup{t:Lev.T}(h:a2d w t p F):F.Nodup:=by
 cases t with
 |nil=>rw[h.2];exact List.nodup_nil
 |node a l r=>obtain⟨b,_,_,_,_,_,_,_,_,_,_,_,_,_,_,nd⟩:=h;exact nd
structure a2j(w:World)(b:Nat)(c:Int)(l r:Lev.T)(pl pr:Option Addr)(Fl Fr:List Nat):Prop where
 c0:w.cell? ⟨b,0,none⟩=some (.int .i64 c)
 c1:∃ x,w.cell? ⟨b,1,none⟩=some (.int .i64 x)
 c2:∃ x,w.cell? ⟨b,2,none⟩=some (.int .i64 x)
 c3:w.cell? ⟨b,3,none⟩=some (.pointer pl)
 c4:w.cell? ⟨b,4,none⟩=some (.pointer pr)
 fz:∀ o,w.frozen? ⟨b,o,none⟩=false
 l:a2d w l (.pointer pl) Fl
 r:a2d w r (.pointer pr) Fr
 nd:(b :: (Fl++Fr)).Nodup
def LB:Lev.T->Prop
 |.nil=>True
 |.node a l r=>(-1000000<=a/\a<=1000000)/\(-100000000<=Lev.top (.node a l r)/\Lev.top (.node a l r)<=100000000)/\(-100000000<=Lev.bot (.node a l r)/\Lev.bot (.node a l r)<=100000000)/\LB l/\LB r
theorem LB.top{t:Lev.T}(h:LB t):-100000000<=Lev.top t/\Lev.top t<=100000000:=by
 cases t with
 |nil=>simp[Lev.top]
 |node a l r=>exact h.2.1
theorem LB.bot{t:Lev.T}(h:LB t):-100000000<=Lev.bot t/\Lev.bot t<=100000000:=by
 cases t with
 |nil=>simp[Lev.bot]
 |node a l r=>exact h.2.2.1
theorem LB.val{t:Lev.T}(h:LB t):-1000000<=Lev.val t/\Lev.val t<=1000000:=by
 cases t with
 |nil=>simp[Lev.val]
 |node a l r=>exact h.1
theorem LB.fst{t:Lev.T}(h:LB t):LB (Lev.fst t):=by
 cases t with
 |nil=>trivial
 |node a l r=>exact h.2.2.2.1
theorem LB.snd{t:Lev.T}(h:LB t):LB (Lev.snd t):=by
 cases t with
 |nil=>trivial
 |node a l r=>exact h.2.2.2.2
theorem LB.mk{l r:Lev.T}(h:LB (Lev.mk a l r)):(-1000000<=a/\a<=1000000)/\LB l/\LB r:=by
 have h1:=h.val;have h2:=h.fst;have h3:=h.snd;simp at h1 h2 h3;exact⟨h1,h2,h3⟩
theorem a0N(lo hi a b:Int)(w:World):
  Calls Tryz.prog 257 #[.agg #[.int .i64 lo,.int .i64 hi],.agg #[.int .i64 a,.int .i64 b]] w fun e w'=>e=.returned (.bool (Lev.apart lo hi a b))/\Below w.heap.size w w':=by
 by_cases h1:hi<=a
 ·go_enter Tryz.func257,Tryz.ntmps257
  go_wp2;go_ret;exact⟨a2C (by simp[Lev.apart,h1]),((zr _ _).alloc (zq _) _).alloc (by simp) _⟩
 ·by_cases h2:b<=lo
  all_goals
   go_enter Tryz.func257,Tryz.ntmps257
   go_wp2;go_ret;exact⟨a2C (by simp[Lev.apart];omega),((zr _ _).alloc (zq _) _).alloc (by simp) _⟩
theorem a2v(lo hi a b:Int)(w:World):
  Calls Tryz.prog 258 #[.agg #[.int .i64 lo,.int .i64 hi],.agg #[.int .i64 a,.int .i64 b]] w fun e w'=>e=.returned (.bool (Lev.within lo hi a b))/\Below w.heap.size w w':=by
 by_cases h1:a<=lo
 ·by_cases h2:hi<=b
  all_goals
   go_enter Tryz.func258,Tryz.ntmps258
   go_wp2;go_ret;exact⟨a2C (by simp[Lev.within];omega),((zr _ _).alloc (zq _) _).alloc (by simp) _⟩
 ·go_enter Tryz.func258,Tryz.ntmps258
  go_wp2;go_ret;exact⟨a2C (by simp[Lev.within];omega),((zr _ _).alloc (zq _) _).alloc (by simp) _⟩
theorem c2M(w:World):
  Calls Tryz.prog 214 #[.pointer none] w fun e w'=>e=.returned (.int .i64 0)/\w'=w:=by
 go_enter Tryz.func214,Tryz.ntmps214
 go_wp2;go_ret;exact⟨rfl,rfl⟩
theorem c0r(b:Nat)(x:Int)(w:World)(c1:w.cell? ⟨b,1,none⟩=some (.int .i64 x)):
  Calls Tryz.prog 214 #[.pointer (some ⟨b,0,none⟩)] w fun e w'=>e=.returned (.int .i64 x)/\w'=w:=by
 go_enter Tryz.func214,Tryz.ntmps214
 go_wp2;go_ret;exact⟨rfl,rfl⟩
theorem a6K{t:Lev.T}(w:World)(h:a2d w t (.pointer u) F):
  Calls Tryz.prog 214 #[.pointer u] w fun e w'=>e=.returned (.int .i64 (Lev.top t))/\w'=w:=by
 cases t with
 |nil=>obtain⟨h1,_⟩:=h;cases h1;exact c2M w
 |node a l r=>obtain⟨b,pl,pr,Fl,Fr,hp,c0,c1,_⟩:=h;cases hp;exact c0r b _ w c1
theorem c2V(w:World):
  Calls Tryz.prog 216 #[.pointer none] w fun e w'=>e=.returned (.int .i64 0)/\w'=w:=by
 go_enter Tryz.func216,Tryz.ntmps216
 go_wp2;go_ret;exact⟨rfl,rfl⟩
theorem c0y(b:Nat)(x:Int)(w:World)(c1:w.cell? ⟨b,2,none⟩=some (.int .i64 x)):
  Calls Tryz.prog 216 #[.pointer (some ⟨b,0,none⟩)] w fun e w'=>e=.returned (.int .i64 x)/\w'=w:=by
 go_enter Tryz.func216,Tryz.ntmps216
 go_wp2;go_ret;exact⟨rfl,rfl⟩
theorem a6M{t:Lev.T}(w:World)(h:a2d w t (.pointer u) F):
  Calls Tryz.prog 216 #[.pointer u] w fun e w'=>e=.returned (.int .i64 (Lev.bot t))/\w'=w:=by
 cases t with
 |nil=>obtain⟨h1,_⟩:=h;cases h1;exact c2V w
 |node a l r=>obtain⟨b,pl,pr,Fl,Fr,hp,c0,c1,c2,_⟩:=h;cases hp;exact c0y b _ w c2
theorem b8t(w:World):
  Calls Tryz.prog 260 #[.pointer none] w fun e w'=>e=.returned (.bool true)/\w'=w:=by
 go_enter Tryz.func260,Tryz.ntmps260
 go_wp2;go_ret;exact⟨rfl,rfl⟩
def b5g(pl pr:Option Addr):Bool:=pl.isNone && pr.isNone
theorem a6e(b:Nat)(pl pr:Option Addr)(w:World)(c3:w.cell? ⟨b,3,none⟩=some (.pointer pl))(c4:w.cell? ⟨b,4,none⟩=some (.pointer pr)):
  Calls Tryz.prog 260 #[.pointer (some ⟨b,0,none⟩)] w fun e w'=>e=.returned (.bool (b5g pl pr))/\w'=w:=by
 cases pl with
 |none =>
  cases pr with
  |none =>
   go_enter Tryz.func260,Tryz.ntmps260
   go_wp2;go_ret;exact⟨rfl,rfl⟩
  |some q =>
   go_enter Tryz.func260,Tryz.ntmps260
   go_wp2;go_ret;exact⟨rfl,rfl⟩
 |some q =>
  go_enter Tryz.func260,Tryz.ntmps260
  go_wp2;go_ret;exact⟨rfl,rfl⟩
theorem a2d.isNone{t:Lev.T}(h:a2d w t (.pointer u) F):u.isNone=Lev.isNil t:=by
 cases t with
 |nil=>obtain⟨h1,_⟩:=h;cases h1;rfl
 |node a l r=>obtain⟨b,pl,pr,Fl,Fr,hp,_⟩:=h;cases hp;rfl
theorem a4c(lo hi:Int)(w:World)(h0:0<=lo)(h1:lo<=hi)(h2:hi<=2000000):
  Calls Tryz.prog 259 #[.agg #[.int .i64 lo,.int .i64 hi]] w fun e w'=>e=.returned (.tuple #[.agg #[.int .i64 lo,.int .i64 (Lev.mid lo hi)],.agg #[.int .i64 (Lev.mid lo hi),.int .i64 hi]])/\Below w.heap.size w w':=by
 go_enter Tryz.func259,Tryz.ntmps259
 go_wp2
 go_region
 all_goals
  go_wp2;refine bodyPost_ret (v:=.tuple #[.agg #[.int .i64 lo,.int .i64 (Lev.mid lo hi)],.agg #[.int .i64 (Lev.mid lo hi),.int .i64 hi]]) (by simp[results,Tryz.results259,go_sem,Lev.mid]) rfl ⟨rfl,?_⟩;exact ((((zr _ _).alloc (zq _) _).alloc (by simp) _).alloc (by simp;omega) _).drew
theorem a2j.off{l r:Lev.T}(h:a2j w b c l r pl pr Fl Fr)(k:Off G w w')(hb:b ∉ G)(hl:∀ x∈Fl,x ∉ G)(hr:∀ x∈Fr,x ∉ G):a2j w' b c l r pl pr Fl Fr :=
 ⟨k.cell hb h.c0,h.c1.imp (fun _=>k.cell hb),h.c2.imp (fun _=>k.cell hb),k.cell hb h.c3,k.cell hb h.c4,fun o=>(k.frozen hb (World.block_lt_of_cell? _ _ h.c0)).trans (h.fz o),h.l.off k hl,h.r.off k hr,h.nd⟩
theorem a2j.drew{l r:Lev.T}(h:a2j w b c l r pl pr Fl Fr):a2j w.drew b c l r pl pr Fl Fr :=
 h.off (G:=[]) (Off.refl _ _).drew (by simp) (by simp) (by simp)
theorem a2j.out{l r:Lev.T}(h:a2j w b c l r pl pr Fl Fr):(∀ x∈Fl,x ∉ [b])/\(∀ x∈Fr,x ∉ [b]):=by
 have nd:=h.nd;rw[List.nodup_cons] at nd;refine⟨fun x hx=>?_,fun x hx=>?_⟩ <;> (simp;rintro rfl;exact nd.1 (by simp[hx]))
theorem a2j.set1{l r:Lev.T}(h:a2j w b c l r pl pr Fl Fr)(x:Int):a2j (w.setCell ⟨b,1,none⟩ (.int .i64 x)) b c l r pl pr Fl Fr:=by
 obtain⟨x1,h1⟩:=h.c1;exact⟨(zS _ _ _ _ (by simp)).trans h.c0,⟨x,World.cell?_setCell_same _ _ _ h1⟩,h.c2.imp (fun _ e=>(zS _ _ _ _ (by simp)).trans e),(zS _ _ _ _ (by simp)).trans h.c3,(zS _ _ _ _ (by simp)).trans h.c4,fun o=>(zF ..).trans (h.fz o),h.l.off (Off.set0 ..) h.out.1,h.r.off (Off.set0 ..) h.out.2,h.nd⟩
theorem a2j.set2{l r:Lev.T}(h:a2j w b c l r pl pr Fl Fr)(x:Int):a2j (w.setCell ⟨b,2,none⟩ (.int .i64 x)) b c l r pl pr Fl Fr:=by
 obtain⟨x1,h1⟩:=h.c2;exact⟨(zS _ _ _ _ (by simp)).trans h.c0,h.c1.imp (fun _ e=>(zS _ _ _ _ (by simp)).trans e),⟨x,World.cell?_setCell_same _ _ _ h1⟩,(zS _ _ _ _ (by simp)).trans h.c3,(zS _ _ _ _ (by simp)).trans h.c4,fun o=>(zF ..).trans (h.fz o),h.l.off (Off.set0 ..) h.out.1,h.r.off (Off.set0 ..) h.out.2,h.nd⟩
theorem a2j.done{l r:Lev.T}(h:a2j w b c l r pl pr Fl Fr)(h1:w.cell? ⟨b,1,none⟩=some (.int .i64 (c+max (Lev.top l) (Lev.top r)))):
  a2d (w.setCell ⟨b,2,none⟩ (.int .i64 (c+min (Lev.bot l) (Lev.bot r)))) (.node c l r) (.pointer (some ⟨b,0,none⟩)) (b :: (Fl++Fr)):=by
 have k:=h.set2 (c+min (Lev.bot l) (Lev.bot r));obtain⟨x2,h2⟩:=h.c2;exact⟨b,pl,pr,Fl,Fr,rfl,k.c0,(zS _ _ _ _ (by simp)).trans h1,World.cell?_setCell_same _ _ _ h2,k.c3,k.c4,k.fz,k.l,k.r,rfl,h.nd⟩
theorem b4E(w:World)(b:Nat)(l r:Lev.T)(pl pr:Option Addr)(Fl Fr:List Nat)(h:a2j w b 0 l r pl pr Fl Fr)(hl:Lev.isNil l=true)(hr:Lev.isNil r=true):
  Calls Tryz.prog 281 #[.pointer (some ⟨b,0,none⟩)] w fun e w'=>e=.returned (.pointer none)/\w'=w:=by
 have c0:=h.c0;have e1:b5g pl pr=true:=by rw[b5g,h.l.isNone,h.r.isNone,hl,hr];rfl
 go_enter Tryz.func281,Tryz.ntmps281
 go_wp2_with (go_at_call 260;refine (a6e _ pl pr _ h.c3 h.c4).mono ?_;rintro e w' ⟨rfl,rfl⟩)
 go_ret;exact⟨rfl,rfl⟩
theorem b3u{l r:Lev.T}(h:a2j w b c l r pl pr Fl Fr):
  w.cell? ⟨b,0,none⟩=some (.int .i64 c)/\w.cell? ⟨b,3,none⟩=some (.pointer pl)/\w.cell? ⟨b,4,none⟩=some (.pointer pr)/\a2j w b c l r pl pr Fl Fr:=⟨h.c0,h.c3,h.c4,h⟩
theorem b2M(w:World)(b:Nat)(c:Int)(l r:Lev.T)(pl pr:Option Addr)(Fl Fr:List Nat)(h:a2j w b c l r pl pr Fl Fr)(hn:¬ (c=0/\Lev.isNil l=true/\Lev.isNil r=true))
  (hc:-1000000<=c/\c<=1000000) (hl:LB l) (hr:LB r):
  Calls Tryz.prog 281 #[.pointer (some ⟨b,0,none⟩)] w fun e w'=>e=.returned (.pointer (some ⟨b,0,none⟩))/\a2d w' (.node c l r) (.pointer (some ⟨b,0,none⟩)) (b :: (Fl++Fr))/\Off [b] w w':=by
 have c0:=h.c0;obtain⟨hc1,hc2⟩:=hc;have t1:=hl.top;have t2:=hr.top;have t3:=hl.bot;have t4:=hr.bot
 have e1:c=0->b5g pl pr=false:=by
  rw[b5g,h.l.isNone,h.r.isNone]
  cases hx:Lev.isNil l <;> cases hy:Lev.isNil r <;> simp_all
 have f1:=h.fz 1;have f2:=h.fz 2;obtain⟨x1,c1⟩:=h.c1;obtain⟨x2,c2⟩:=h.c2
 have e3:IntKind.i64.wrap (c+if Lev.top l<Lev.top r then Lev.top r else Lev.top l)=c+max (Lev.top l) (Lev.top r):=by
  rw[c0q];exact a0i (by omega) (by omega)
 have e4:IntKind.i64.wrap (c+if Lev.bot r<Lev.bot l then Lev.bot r else Lev.bot l)=c+min (Lev.bot l) (Lev.bot r):=by
  rw[c6g];exact a0i (by omega) (by omega)
 have E3:=a0b e3;have E4:=a0b e4;have hw1:a2j ((w.setCell ⟨b,1,none⟩ (.int .i64 (c+max (Lev.top l) (Lev.top r)))).drew) b c l r pl pr Fl Fr:=(h.set1 _).drew;have hw2:((w.setCell ⟨b,1,none⟩ (.int .i64 (c+max (Lev.top l) (Lev.top r)))).drew).cell? ⟨b,1,none⟩=some (.int .i64 (c+max (Lev.top l) (Lev.top r))):=zm _ _ _ c1;have hw3:Off [b] w ((w.setCell ⟨b,1,none⟩ (.int .i64 (c+max (Lev.top l) (Lev.top r)))).drew):=(Off.set0 b w _ _).drew;have HW:=a0b (zA hw1 (zA hw2 hw3));clear e3 e4 hw1 hw2 hw3
 by_cases hz:c=0
 ·have e2:=e1 hz;have hz':(c==0)=true:=by simp[hz]
  clear hn e1 hz
  go_enter Tryz.func281,Tryz.ntmps281
  go_wp2_with (go_at_call 260;refine (a6e _ pl pr _ h.c3 h.c4).mono ?_;rintro e w' ⟨rfl,rfl⟩)
  go_region_held3 (fun w'=>w'.cell? ⟨b,0,none⟩=some (.int .i64 c)/\w'.cell? ⟨b,3,none⟩=some (.pointer pl)/\w'.cell? ⟨b,4,none⟩=some (.pointer pr)/\a2j w' b c l r pl pr Fl Fr)
   (first
    |exact b3u (a2j.drew h)
    |exact b3u (a2j.drew (a2j.set1 h _)))
   (first
    |(go_at_call_of 214 (Value.pointer pl);go_split_ands;refine (a6K _ (a2j.l (by assumption))).mono ?_;rintro e w' ⟨rfl,rfl⟩)
    |(go_at_call_of 214 (Value.pointer pr);go_split_ands;refine (a6K _ (a2j.r (by assumption))).mono ?_;rintro e w' ⟨rfl,rfl⟩))
  rw[E3.out,a7z];obtain⟨hX,cX,oX⟩:=HW.out;clear HW;generalize (World.setCell _ ⟨b,1,none⟩ (.int .i64 (c+max (Lev.top l) (Lev.top r)))).drew=X at hX cX oX ⊢;have f2:=hX.fz 2;obtain⟨x2,c2⟩:=hX.c2
  go_wp2_with fail
  go_region_held3 (fun w'=>w'.cell? ⟨b,0,none⟩=some (.int .i64 c)/\w'.cell? ⟨b,3,none⟩=some (.pointer pl)/\w'.cell? ⟨b,4,none⟩=some (.pointer pr)/\a2j w' b c l r pl pr Fl Fr)
   (first
    |exact b3u (a2j.drew hX)
    |exact b3u (a2j.drew (a2j.set2 hX _)))
   (first
    |(go_at_call_of 216 (Value.pointer pl);go_split_ands;refine (a6M _ (a2j.l (by assumption))).mono ?_;rintro e w' ⟨rfl,rfl⟩)
    |(go_at_call_of 216 (Value.pointer pr);go_split_ands;refine (a6M _ (a2j.r (by assumption))).mono ?_;rintro e w' ⟨rfl,rfl⟩))
  rw[E4.out,c0o];have hY:=hX.done cX;have oY:Off [b] _ (World.setCell X ⟨b,2,none⟩ (.int .i64 (c+min (Lev.bot l) (Lev.bot r)))).drew:=(oX.setCell (.inl (by simp)) _ _).drew;have hZ:=a0b (zA (hY.same (Off.refl _ _).drew) oY);clear hY oY
  go_wp2_with fail
  go_ret;exact⟨rfl,hZ.out.1,hZ.out.2⟩
 ·have hz':(c==0)=false:=by simp[hz]
  clear hn e1 hz
  go_enter Tryz.func281,Tryz.ntmps281
  go_wp2_with fail
  go_region_held3 (fun w'=>w'.cell? ⟨b,0,none⟩=some (.int .i64 c)/\w'.cell? ⟨b,3,none⟩=some (.pointer pl)/\w'.cell? ⟨b,4,none⟩=some (.pointer pr)/\a2j w' b c l r pl pr Fl Fr)
   (first
    |exact b3u (a2j.drew h)
    |exact b3u (a2j.drew (a2j.set1 h _)))
   (first
    |(go_at_call_of 214 (Value.pointer pl);go_split_ands;refine (a6K _ (a2j.l (by assumption))).mono ?_;rintro e w' ⟨rfl,rfl⟩)
    |(go_at_call_of 214 (Value.pointer pr);go_split_ands;refine (a6K _ (a2j.r (by assumption))).mono ?_;rintro e w' ⟨rfl,rfl⟩))
  rw[E3.out,a7z];obtain⟨hX,cX,oX⟩:=HW.out;clear HW;generalize (World.setCell _ ⟨b,1,none⟩ (.int .i64 (c+max (Lev.top l) (Lev.top r)))).drew=X at hX cX oX ⊢;have f2:=hX.fz 2;obtain⟨x2,c2⟩:=hX.c2
  go_wp2_with fail
  go_region_held3 (fun w'=>w'.cell? ⟨b,0,none⟩=some (.int .i64 c)/\w'.cell? ⟨b,3,none⟩=some (.pointer pl)/\w'.cell? ⟨b,4,none⟩=some (.pointer pr)/\a2j w' b c l r pl pr Fl Fr)
   (first
    |exact b3u (a2j.drew hX)
    |exact b3u (a2j.drew (a2j.set2 hX _)))
   (first
    |(go_at_call_of 216 (Value.pointer pl);go_split_ands;refine (a6M _ (a2j.l (by assumption))).mono ?_;rintro e w' ⟨rfl,rfl⟩)
    |(go_at_call_of 216 (Value.pointer pr);go_split_ands;refine (a6M _ (a2j.r (by assumption))).mono ?_;rintro e w' ⟨rfl,rfl⟩))
  rw[E4.out,c0o];have hY:=hX.done cX;have oY:Off [b] _ (World.setCell X ⟨b,2,none⟩ (.int .i64 (c+min (Lev.bot l) (Lev.bot r)))).drew:=(oX.setCell (.inl (by simp)) _ _).drew;have hZ:=a0b (zA (hY.same (Off.refl _ _).drew) oY);clear hY oY
  go_wp2_with fail
  go_ret;exact⟨rfl,hZ.out.1,hZ.out.2⟩
structure c7i(w w1:World)(lo hi a b:Int):Prop where
 q0:w1.cell? ⟨w.heap.size,0,none⟩=some (.int .i64 lo)
 q1:w1.cell? ⟨w.heap.size,1,none⟩=some (.int .i64 hi)
 q2:w1.cell? ⟨w.heap.size+1,0,none⟩=some (.int .i64 a)
 q3:w1.cell? ⟨w.heap.size+1,1,none⟩=some (.int .i64 b)
 sz:w.heap.size+1<w1.heap.size
 bw:Below w.heap.size w w1
theorem boxes{b:Int}(h:Below ((w.alloc (.cells #[.int .i64 lo,.int .i64 hi] 60)).alloc (.cells #[.int .i64 a,.int .i64 b] 60)).heap.size ((w.alloc (.cells #[.int .i64 lo,.int .i64 hi] 60)).alloc (.cells #[.int .i64 a,.int .i64 b] 60)) w1):c7i w w1 lo hi a b:=by
 have e:((w.alloc (.cells #[.int .i64 lo,.int .i64 hi] 60)).alloc (.cells #[.int .i64 a,.int .i64 b] 60)).heap.size=w.heap.size+2:=by simp
 refine⟨(h.cell (p:=⟨w.heap.size,0,none⟩) ?_).trans ?_,(h.cell (p:=⟨w.heap.size,1,none⟩) ?_).trans ?_,(h.cell (p:=⟨w.heap.size+1,0,none⟩) ?_).trans ?_,(h.cell (p:=⟨w.heap.size+1,1,none⟩) ?_).trans ?_,?_,?_⟩
 ·rw[e];show w.heap.size<_;omega
 ·simp
 ·rw[e];show w.heap.size<_;omega
 ·simp
 ·rw[e];show w.heap.size+1<_;omega
 ·simp
 ·rw[e];show w.heap.size+1<_;omega
 ·simp
 ·have:=h.size;omega
 ·exact (((zr _ _).alloc (zq _) _).alloc (by simp) _).trans (h.mono (by omega))
def b4f(w:World)(F:List Nat)(t':Lev.T)(e:Ending)(w':World):Prop :=
 ∃ (u:Option Addr) (F':List Nat),e=.returned (.pointer u)/\a2d w' t' (.pointer u) F'/\(∀ k∈F',k∈F\/w.heap.size<=k)/\Off F w w'
theorem b3X(t:Lev.T)(u:Option Addr)(F:List Nat)(lo hi a b x:Int)(n:Nat)(w:World)(h:a2d w t (.pointer u) F)(hp:Lev.apart lo hi a b=true):
  Calls Tryz.prog 261 #[.pointer u,.agg #[.int .i64 lo,.int .i64 hi],.agg #[.int .i64 a,.int .i64 b],.int .i64 x] w (b4f w F (Lev.a6q n t lo hi a b x)):=by
 have e:Lev.a6q n t lo hi a b x=t:=by unfold Lev.a6q;rw[if_pos hp]
 rw[e];clear e
 go_enter Tryz.func261,Tryz.ntmps261
 go_wp2_with fail
 refine (a0N _ _ _ _ _).mono ?_;rintro e w1 ⟨rfl,hb⟩;rw[hp];have hB:Below w.heap.size w w1:=(((zr _ _).alloc (zq _) _).alloc (by simp) _).trans (hb.mono (by simp;omega));have HB:=a0b hB;clear hB hb
 go_wp2_with fail
 go_ret;exact⟨u,F,rfl,h.same (Off.of_below HB.out),fun k hk=>.inl hk,Off.of_below HB.out⟩
theorem b6S(w:World)(c:Int):a2j (w.alloc (.cells #[.int .i64 c,.int .i64 0,.int .i64 0,.pointer none,.pointer none] 338)) w.heap.size c .nil .nil none none [] [] :=
 ⟨by simp,⟨0,by simp⟩,⟨0,by simp⟩,by simp,by simp,fun o=>World.frozen?_alloc_new w _ _ o,⟨rfl,rfl⟩,⟨rfl,rfl⟩,by simp⟩
theorem a7G{l r:Lev.T}(h:a2d w (.node c l r) (.pointer u) F):∃ (b:Nat)(pl pr:Option Addr)(Fl Fr:List Nat),u=some ⟨b,0,none⟩/\F=b :: (Fl++Fr)/\a2j w b c l r pl pr Fl Fr:=by
 obtain⟨b,pl,pr,Fl,Fr,hp,c0,c1,c2,c3,c4,fz,hl,hr,hF,nd⟩:=h
 cases hp
 exact⟨b,pl,pr,Fl,Fr,rfl,hF,c0,⟨_,c1⟩,⟨_,c2⟩,c3,c4,fz,hl,hr,hF ▸ nd⟩
theorem a4k(w:World)(b:Nat)(c:Int)(l r:Lev.T)(pl pr:Option Addr)(Fl Fr:List Nat)(h:a2j w b c l r pl pr Fl Fr)(hb:LB (Lev.mk c l r)):
  Calls Tryz.prog 281 #[.pointer (some ⟨b,0,none⟩)] w fun e w'=>∃ (u:Option Addr) (F':List Nat),e=.returned (.pointer u)/\a2d w' (Lev.mk c l r) (.pointer u) F'/\(∀ k∈F',k∈b :: (Fl++Fr))/\Off [b] w w':=by
 obtain⟨b1,b2,b3⟩:=hb.mk
 by_cases hn:c=0/\Lev.isNil l=true/\Lev.isNil r=true
 ·have e:Lev.mk c l r=.nil:=by unfold Lev.mk;rw[if_pos hn]
  rw[e];obtain⟨rfl,n1,n2⟩:=hn;refine (b4E w b l r pl pr Fl Fr h n1 n2).mono ?_;rintro e w' ⟨rfl,rfl⟩;exact⟨none,[],rfl,⟨rfl,rfl⟩,by simp,Off.refl _ _⟩
 ·have e:Lev.mk c l r=.node c l r:=by unfold Lev.mk;rw[if_neg hn]
  rw[e];refine (b2M w b c l r pl pr Fl Fr h hn b1 b2 b3).mono ?_;rintro e w' ⟨rfl,k1,k2⟩;exact⟨_,_,rfl,k1,fun _ hk=>hk,k2⟩
theorem a2j.set0{l r:Lev.T}(h:a2j w b c l r pl pr Fl Fr)(x:Int):a2j (w.setCell ⟨b,0,none⟩ (.int .i64 x)) b x l r pl pr Fl Fr :=
 ⟨zm _ _ _ h.c0,h.c1.imp (fun _ e=>(zS _ _ _ _ (by simp)).trans e),h.c2.imp (fun _ e=>(zS _ _ _ _ (by simp)).trans e),(zS _ _ _ _ (by simp)).trans h.c3,(zS _ _ _ _ (by simp)).trans h.c4,fun o=>(zF ..).trans (h.fz o),h.l.off (Off.set0 ..) h.out.1,h.r.off (Off.set0 ..) h.out.2,h.nd⟩
theorem a8B{t':Lev.T}(h1:Off F w w1)(hG:∀ k∈G,k∈F\/w.heap.size<=k)(hb:b∈G)(h2:a2d w2 t' (.pointer u) F')(h3:∀ k∈F',k∈G)(h4:Off [b] w1 w2):b4f w F t' (.returned (.pointer u)) w2 :=
 ⟨u,F',rfl,h2,fun k hk=>hG k (h3 k hk),h1.trans' h4 (fun x hx=>by simp at hx;subst hx;exact hG x hb)⟩
theorem b1i(t:Lev.T)(u:Option Addr)(F:List Nat)(lo hi a b x:Int)(n:Nat)(w:World)(h:a2d w t (.pointer u) F)(hp:Lev.apart lo hi a b=false)(hw:Lev.within lo hi a b=true)
  (hx1:-1000000<=x) (hx2:x<=1000000) (hB1:LB t) (hB2:LB (Lev.a6q n t lo hi a b x)):
  Calls Tryz.prog 261 #[.pointer u,.agg #[.int .i64 lo,.int .i64 hi],.agg #[.int .i64 a,.int .i64 b],.int .i64 x] w (b4f w F (Lev.a6q n t lo hi a b x)):=by
 have e:Lev.a6q n t lo hi a b x=Lev.mk (Lev.val t+x) (Lev.fst t) (Lev.snd t):=by unfold Lev.a6q;rw[if_neg (by simp[hp]),if_pos hw]
 rw[e] at hB2 ⊢;have hv:=hB1.val;clear e hB1
 cases t with
 |nil =>
  obtain⟨hu,rfl⟩:=h
  cases hu
  simp only[Lev.val,Lev.fst,Lev.snd,Int.zero_add] at hB2 hv ⊢
  go_enter Tryz.func261,Tryz.ntmps261
  go_wp2_with fail
  refine (a0N _ _ _ _ _).mono ?_;rintro e w1 ⟨rfl,hb⟩;rw[hp];have bx:=boxes hb;have ⟨q0,q1,q2,q3,hs,hB⟩:=bx;have HB:=a0b hB;have hs0:w.heap.size<w1.heap.size:=by omega
  clear hB hb bx
  go_wp2_with fail
  refine (a2v _ _ _ _ _).mono ?_;rintro e w2 ⟨rfl,hb⟩;rw[hw];have hH:=(b6S w1 0).off (G:=[]) (Off.of_below hb) (by simp) (by simp) (by simp);have hO:Off [] w w2:=(((Off.of_below HB.out).alloc _).trans (Off.of_below hb));have hz:w.heap.size<=w1.heap.size:=by omega
  have hG:∀ k∈w1.heap.size :: ([]++[]),k∈([]:List Nat)\/w.heap.size<=k:=by simp;omega
  have c0:=hH.c0;have f0:=hH.fz 0;clear hb q0 q1 q2 q3 hs hs0
  go_wp2_with fail
  refine (a4k _ _ _ _ _ _ _ _ _ (hH.set0 _) hB2).mono ?_;rintro e w3 ⟨u3,F3,rfl,k1,k2,k3⟩;have HK:=a0b (a8B (hO.setCell (hG _ (by simp)) _ _) hG (by simp) k1 k2 k3);clear k1 k2 k3 hH hO hG c0 f0
  go_wp2_with fail
  go_ret;exact HK.out
 |node c l r =>
  obtain⟨bk,pl,pr,Fl,Fr,rfl,rfl,hh⟩:=a7G h;simp only[Lev.val,Lev.fst,Lev.snd] at hB2 hv ⊢
  go_enter Tryz.func261,Tryz.ntmps261
  go_wp2_with fail
  refine (a0N _ _ _ _ _).mono ?_;rintro e w1 ⟨rfl,hb⟩;rw[hp];have bx:=boxes hb;have ⟨q0,q1,q2,q3,hs,hB⟩:=bx;have HB:=a0b hB;have hs0:w.heap.size<w1.heap.size:=by omega
  clear hB hb bx
  go_wp2_with fail
  refine (a2v _ _ _ _ _).mono ?_;rintro e w2 ⟨rfl,hb⟩;rw[hw];have hH:=hh.off (G:=[]) ((Off.of_below HB.out).trans (Off.of_below hb)) (by simp) (by simp) (by simp);have hO:Off (bk :: (Fl++Fr)) w w2:=(Off.of_below HB.out).trans (Off.of_below hb);have hG:∀ k∈bk :: (Fl++Fr),k∈bk :: (Fl++Fr)\/w.heap.size<=k:=fun _ hk=>.inl hk
  have c0:=hH.c0;have f0:=hH.fz 0;clear hb q0 q1 q2 q3 hs hs0
  go_wp2_with fail
  refine (a4k _ _ _ _ _ _ _ _ _ (hH.set0 _) hB2).mono ?_;rintro e w3 ⟨u3,F3,rfl,k1,k2,k3⟩;have HK:=a0b (a8B (hO.setCell (hG _ (by simp)) _ _) hG (by simp) k1 k2 k3);clear k1 k2 k3 hH hO hG c0 f0
  go_wp2_with fail
  go_ret;exact HK.out
theorem a2j.lt{l r:Lev.T}(h:a2j w b c l r pl pr Fl Fr):∀ k∈b :: (Fl++Fr),k<w.heap.size:=by
 intro k hk;rcases List.mem_cons.1 hk with rfl|hk
 ·exact World.block_lt_of_cell? _ _ h.c0
 ·rcases List.mem_append.1 hk with hk|hk
  ·exact h.l.lt k hk
  ·exact h.r.lt k hk
theorem a2j.notl{l r:Lev.T}(h:a2j w b c l r pl pr Fl Fr):b ∉ Fl/\b ∉ Fr/\(∀ x∈Fr,x ∉ Fl)/\Fl.Nodup/\Fr.Nodup:=by
 have nd:=h.nd;rw[List.nodup_cons,List.nodup_append] at nd;obtain⟨n1,n2,n3,n4⟩:=nd;exact⟨fun e=>n1 (by simp[e]),fun e=>n1 (by simp[e]),fun x hx hy=>n4 x hy x hx rfl,n2,n3⟩
theorem a2j.setl{l r l':Lev.T}(h:a2j X b c l r pl pr Fl Fr)(k1:a2d w4 l' (.pointer u) F')(k2:∀ k∈F',k∈Fl\/X.heap.size<=k)(k3:Off Fl X w4):
  a2j (w4.setCell ⟨b,3,none⟩ (.pointer u)) b c l' r u pr F' Fr:=by
 obtain⟨n1,n2,n3,n4,n5⟩:=h.notl;have hlt:=h.lt;have hb:b ∉ F':=fun e=>by rcases k2 b e with h1|h1;exact n1 h1;have:=hlt b (by simp);omega
 have hr:∀ x∈Fr,x ∉ F':=fun x hx e=>by rcases k2 x e with h1|h1;exact n3 x hx h1;have:=hlt x (by simp[hx]);omega
 have hO:=Off.set0 b w4 3 (.pointer u);have hr4:=h.r.off k3 n3
 exact⟨(zS _ _ _ _ (by simp)).trans (k3.cell n1 h.c0),h.c1.imp (fun _ e=>(zS _ _ _ _ (by simp)).trans (k3.cell n1 e)),h.c2.imp (fun _ e=>(zS _ _ _ _ (by simp)).trans (k3.cell n1 e)),World.cell?_setCell_same _ _ _ (k3.cell n1 h.c3),(zS _ _ _ _ (by simp)).trans (k3.cell n1 h.c4),
  fun o=>(zF ..).trans ((k3.frozen n1 (hlt b (by simp))).trans (h.fz o)),k1.off hO (fun x hx=>by simp;rintro rfl;exact hb hx),hr4.off hO (fun x hx=>by simp;rintro rfl;exact n2 hx),
  List.nodup_cons.2 ⟨by simp;exact⟨hb,n2⟩,List.nodup_append.2 ⟨k1.nodup,n5,fun x hx y hy e=>hr y hy (e ▸ hx)⟩⟩⟩
theorem a2j.setr{l r r':Lev.T}(h:a2j X b c l r pl pr Fl Fr)(k1:a2d w4 r' (.pointer u) F')(k2:∀ k∈F',k∈Fr\/X.heap.size<=k)(k3:Off Fr X w4):
  a2j (w4.setCell ⟨b,4,none⟩ (.pointer u)) b c l r' pl u Fl F':=by
 obtain⟨n1,n2,n3,n4,n5⟩:=h.notl;have hlt:=h.lt;have hb:b ∉ F':=fun e=>by rcases k2 b e with h1|h1;exact n2 h1;have:=hlt b (by simp);omega
 have hl:∀ x∈Fl,x ∉ F':=fun x hx e=>by rcases k2 x e with h1|h1;exact n3 x h1 hx;have:=hlt x (by simp[hx]);omega
 have hO:=Off.set0 b w4 4 (.pointer u);have hl4:=h.l.off k3 (fun x hx e=>n3 x e hx)
 exact⟨(zS _ _ _ _ (by simp)).trans (k3.cell n2 h.c0),h.c1.imp (fun _ e=>(zS _ _ _ _ (by simp)).trans (k3.cell n2 e)),h.c2.imp (fun _ e=>(zS _ _ _ _ (by simp)).trans (k3.cell n2 e)),(zS _ _ _ _ (by simp)).trans (k3.cell n2 h.c3),World.cell?_setCell_same _ _ _ (k3.cell n2 h.c4),
  fun o=>(zF ..).trans ((k3.frozen n2 (hlt b (by simp))).trans (h.fz o)),hl4.off hO (fun x hx=>by simp;rintro rfl;exact n1 hx),k1.off hO (fun x hx=>by simp;rintro rfl;exact hb hx),
  List.nodup_cons.2 ⟨by simp;exact⟨n1,hb⟩,List.nodup_append.2 ⟨n4,k1.nodup,fun x hx y hy e=>hl x hx (e ▸ hy)⟩⟩⟩
structure a2P(w X:World)(F:List Nat)(bk M:Nat)(c lo hi a b:Int)(l r:Lev.T)(pl pr:Option Addr)(Fl Fr:List Nat):Prop where
 half:a2j X bk c l r pl pr Fl Fr
 off:Off F w X
 own:∀ k∈bk :: (Fl++Fr),k∈F\/w.heap.size<=k
 a0:X.cell? ⟨w.heap.size+1,0,none⟩=some (.int .i64 a)
 a1:X.cell? ⟨w.heap.size+1,1,none⟩=some (.int .i64 b)
 m0:X.cell? ⟨M,0,none⟩=some (.int .i64 lo)
 m1:X.cell? ⟨M,1,none⟩=some (.int .i64 (Lev.mid lo hi))
 n0:X.cell? ⟨M+1,0,none⟩=some (.int .i64 (Lev.mid lo hi))
 n1:X.cell? ⟨M+1,1,none⟩=some (.int .i64 hi)
 out:w.heap.size+1 ∉ bk :: (Fl++Fr)/\M ∉ bk :: (Fl++Fr)/\M+1 ∉ bk :: (Fl++Fr)
def c1J(n:Nat):Prop:=∀ (t:Lev.T)(u:Option Addr)(F:List Nat)(lo hi a b x:Int)(w:World),a2d w t (.pointer u) F->0<=lo->lo<hi->hi<=2000000->hi-lo<=2 ^ n->a<b->-1000000<=x->x<=1000000->LB t->LB (Lev.a6q n t lo hi a b x) ->
  Calls Tryz.prog 261 #[.pointer u,.agg #[.int .i64 lo,.int .i64 hi],.agg #[.int .i64 a,.int .i64 b],.int .i64 x] w (b4f w F (Lev.a6q n t lo hi a b x))
theorem a2P.drew{b:Int}{l r:Lev.T}(h:a2P w X F bk M c lo hi a b l r pl pr Fl Fr):a2P w X.drew F bk M c lo hi a b l r pl pr Fl Fr :=
 ⟨h.half.drew,h.off.drew,h.own,h.a0,h.a1,h.m0,h.m1,h.n0,h.n1,h.out⟩
theorem a2P.setl{b:Int}{l r l':Lev.T}(h:a2P w X F bk M c lo hi a b l r pl pr Fl Fr)(k1:a2d w4 l' (.pointer u) F')(k2:∀ k∈F',k∈Fl\/X.heap.size<=k)(k3:Off Fl X w4):
  a2P w (w4.setCell ⟨bk,3,none⟩ (.pointer u)) F bk M c lo hi a b l' r u pr F' Fr:=by
 obtain⟨o1,o2,o3⟩:=h.out;have z1:=World.block_lt_of_cell? _ _ h.a0;have z2:=World.block_lt_of_cell? _ _ h.m0;have z3:=World.block_lt_of_cell? _ _ h.n0;have hsz:=h.off.size;have k4:Off (bk :: (Fl++Fr)) X (w4.setCell ⟨bk,3,none⟩ (.pointer u)):=(k3.mono (by intro x hx;simp[hx])).setCell (.inl (by simp)) _ _
 have hF':∀ k∈bk :: (F'++Fr),k∈bk :: (Fl++Fr)\/X.heap.size<=k:=by
  intro k hk;rcases List.mem_cons.1 hk with rfl|hk
  ·exact .inl (by simp)
  ·rcases List.mem_append.1 hk with hk|hk
   ·rcases k2 k hk with h1|h1
    ·exact .inl (by simp[h1])
    ·exact .inr h1
   ·exact .inl (by simp[hk])
 have hh:=h.half.setl k1 k2 k3;refine⟨hh,h.off.trans' k4 h.own,fun k hk=>?_,k4.cell o1 h.a0,k4.cell o1 h.a1,k4.cell o2 h.m0,k4.cell o2 h.m1,k4.cell o3 h.n0,k4.cell o3 h.n1,?_,?_,?_⟩
 ·rcases hF' k hk with h1|h1
  ·exact h.own k h1
  ·exact .inr (by omega)
 ·intro e;rcases hF' _ e with h1|h1
  ·exact o1 h1
  ·simp at z1;omega
 ·intro e;rcases hF' _ e with h1|h1
  ·exact o2 h1
  ·simp at z2;omega
 ·intro e;rcases hF' _ e with h1|h1
  ·exact o3 h1
  ·simp at z3;omega
theorem a2P.setr{b:Int}{l r r':Lev.T}(h:a2P w X F bk M c lo hi a b l r pl pr Fl Fr)(k1:a2d w4 r' (.pointer u) F')(k2:∀ k∈F',k∈Fr\/X.heap.size<=k)(k3:Off Fr X w4):
  a2j (w4.setCell ⟨bk,4,none⟩ (.pointer u)) bk c l r' pl u Fl F'/\Off F w (w4.setCell ⟨bk,4,none⟩ (.pointer u))/\∀ k∈bk :: (Fl++F'),k∈F\/w.heap.size<=k:=by
 have hsz:=h.off.size;have k4:Off (bk :: (Fl++Fr)) X (w4.setCell ⟨bk,4,none⟩ (.pointer u)):=(k3.mono (by intro x hx;simp[hx])).setCell (.inl (by simp)) _ _;refine⟨h.half.setr k1 k2 k3,h.off.trans' k4 h.own,fun k hk=>?_⟩;rcases List.mem_cons.1 hk with rfl|hk
 ·exact h.own k (by simp)
 ·rcases List.mem_append.1 hk with hk|hk
  ·exact h.own k (by simp[hk])
  ·rcases k2 k hk with h1|h1
   ·exact h.own k (by simp[h1])
   ·exact .inr (by omega)
theorem a9I{w3:World}{b:Int}{l r:Lev.T}(hH:a2j w2 bk c l r pl pr Fl Fr)(hO:Off F w w2)(hG:∀ k∈bk :: (Fl++Fr),k∈F\/w.heap.size<=k)(q2:w2.cell? ⟨w.heap.size+1,0,none⟩=some (.int .i64 a))(q3:w2.cell? ⟨w.heap.size+1,1,none⟩=some (.int .i64 b))(hne:w.heap.size+1 ∉ bk :: (Fl++Fr))(hb:Below w2.heap.size w2 w3):
  a2P w ((w3.alloc (.cells #[.int .i64 lo,.int .i64 (Lev.mid lo hi)] 60)).alloc (.cells #[.int .i64 (Lev.mid lo hi),.int .i64 hi] 60)) F bk w3.heap.size c lo hi a b l r pl pr Fl Fr:=by
 have k:Off [] w2 ((w3.alloc (.cells #[.int .i64 lo,.int .i64 (Lev.mid lo hi)] 60)).alloc (.cells #[.int .i64 (Lev.mid lo hi),.int .i64 hi] 60)):=((Off.of_below hb).alloc _).alloc _;have hlt:=hH.lt;have hsz:=hb.size;refine⟨hH.off k (by simp) (by simp) (by simp),hO.trans' k (by simp),hG,k.cell (by simp) q2,k.cell (by simp) q3,by simp,by simp,by simp,by simp,hne,fun e=>?_,fun e=>?_⟩
 ·have:=hlt _ e;omega
 ·have:=hlt _ e;omega
theorem c1A(n:Nat)(ih:Hid (c1J n))(t:Lev.T)(u:Option Addr)(F:List Nat)(lo hi a b x:Int)(w:World)(h:a2d w t (.pointer u) F)(hp:Lev.apart lo hi a b=false)(hw:Lev.within lo hi a b=false)
  (h0:0<=lo) (h1:lo<hi) (h2:hi<=2000000) (h3:hi-lo<=2 ^ (n+1)) (h4:a<b)
  (hx1:-1000000<=x) (hx2:x<=1000000) (hB1:LB t) (hB2:LB (Lev.a6q (n+1) t lo hi a b x)):
  Calls Tryz.prog 261 #[.pointer u,.agg #[.int .i64 lo,.int .i64 hi],.agg #[.int .i64 a,.int .i64 b],.int .i64 x] w (b4f w F (Lev.a6q (n+1) t lo hi a b x)):=by
 have e:Lev.a6q (n+1) t lo hi a b x=Lev.mk (Lev.val t) (Lev.a6q n (Lev.fst t) lo (Lev.mid lo hi) a b x) (Lev.a6q n (Lev.snd t) (Lev.mid lo hi) hi a b x):=by rw[Lev.a6q];rw[if_neg (by simp[hp]),if_neg (by simp[hw])]
 rw[e] at hB2 ⊢;obtain⟨_,hBl,hBr⟩:=hB2.mk;have hl:=hB1.fst;have hr:=hB1.snd;have g1:=Lev.a1r.1 hp;have g2:=Lev.a3W.1 hw;have hm:lo<Lev.mid lo hi/\Lev.mid lo hi<hi:=by unfold Lev.mid;omega
 have hh:=Lev.b1B h3
 have I1:Hid (∀ (w:World) (u:Option Addr) (F:List Nat),a2d w (Lev.fst t) (.pointer u) F->Calls Tryz.prog 261 #[.pointer u,.agg #[.int .i64 lo,.int .i64 (Lev.mid lo hi)],.agg #[.int .i64 a,.int .i64 b],.int .i64 x] w (b4f w F (Lev.a6q n (Lev.fst t) lo (Lev.mid lo hi) a b x))) :=
  fun w u F k=>ih.out _ _ _ _ _ _ _ _ _ k h0 hm.1 (by omega) hh.1 h4 hx1 hx2 hl hBl
 have I2:Hid (∀ (w:World) (u:Option Addr) (F:List Nat),a2d w (Lev.snd t) (.pointer u) F->Calls Tryz.prog 261 #[.pointer u,.agg #[.int .i64 (Lev.mid lo hi),.int .i64 hi],.agg #[.int .i64 a,.int .i64 b],.int .i64 x] w (b4f w F (Lev.a6q n (Lev.snd t) (Lev.mid lo hi) hi a b x))) :=
  fun w u F k=>ih.out _ _ _ _ _ _ _ _ _ k (by omega) hm.2 h2 hh.2 h4 hx1 hx2 hr hBr
 have HB2:=a0b hB2;clear e hBl hBr hl hr g1 g2 hm hh h3 ih hB1 hB2;generalize Lev.a6q n (Lev.fst t) lo (Lev.mid lo hi) a b x=tl at *;generalize Lev.a6q n (Lev.snd t) (Lev.mid lo hi) hi a b x=tr at *
 cases t with
 |nil =>
  obtain⟨hu,rfl⟩:=h
  cases hu
  simp only[Lev.val,Lev.fst,Lev.snd] at HB2 I1 I2 ⊢
  go_enter Tryz.func261,Tryz.ntmps261
  go_wp2_with fail
  refine (a0N _ _ _ _ _).mono ?_;rintro e w1 ⟨rfl,hb⟩;rw[hp];have bx:=boxes hb;have ⟨q0,q1,q2,q3,hs,hB⟩:=bx;have HB:=a0b hB;have hs0:w.heap.size<w1.heap.size:=by omega
  clear hB hb bx
  go_wp2_with fail
  refine (a2v _ _ _ _ _).mono ?_;rintro e w2 ⟨rfl,hb⟩;rw[hw];obtain⟨bk,hbk⟩:∃ bk,bk=w1.heap.size:=⟨_,rfl⟩;have hH:=(b6S w1 0).off (G:=[]) (Off.of_below hb) (by simp) (by simp) (by simp);have hO:Off [] w w2:=(((Off.of_below HB.out).alloc _).trans (Off.of_below hb));have hG:∀ k∈bk :: ([]++[]),k∈([]:List Nat)\/w.heap.size<=k:=by simp;omega
  have hne:w.heap.size+1 ∉ bk :: ([]++[]):=by simp;omega
  have k1:Off [] w1 w2:=((Off.refl [] w1).alloc _).trans (Off.of_below hb);have r0:w2.cell? ⟨w.heap.size,0,none⟩=some (.int .i64 lo):=k1.cell (by simp) q0;have r1:w2.cell? ⟨w.heap.size,1,none⟩=some (.int .i64 hi):=k1.cell (by simp) q1;have r2:w2.cell? ⟨w.heap.size+1,0,none⟩=some (.int .i64 a):=k1.cell (by simp) q2;have r3:w2.cell? ⟨w.heap.size+1,1,none⟩=some (.int .i64 b):=k1.cell (by simp) q3;have hs2:w.heap.size+1<w2.heap.size:=zL hs k1.size;rw[<- hbk] at hH ⊢;clear hb q0 q1 q2 q3 hs hs0 HB k1 hbk
  go_wp2_with fail
  refine (a4c _ _ _ (by omega) (by omega) (by omega)).mono ?_;rintro e w3 ⟨rfl,hb⟩;have hC:a2P w _ _ _ _ 0 lo hi a b _ _ _ _ _ _:=a9I (w3:=w3) hH hO hG r2 r3 hne hb;clear hb hH hO hG r0 r1 r2 r3 hne hs2
  go_upto_region 8 with fail
  generalize (World.alloc _ (.cells #[.int .i64 (Lev.mid lo hi),.int .i64 hi] 60))=X at hC ⊢;generalize w3.heap.size=M at hC ⊢
  go_cut [43] from 35 to 45 (fun _ wx=>∃ (u4:Option Addr) (F4:List Nat),a2P w wx ([]:List Nat) bk M 0 lo hi a b tl .nil u4 none F4 [])
  case first =>
   have b3:=hC.half.c3;have f3:=hC.half.fz 3;have a0:=hC.a0;have a1:=hC.a1;have m0:=hC.m0;have m1:=hC.m1
   go_region_with (first
    |(go_at_call 261;refine (I1.out _ _ _ hC.half.drew.l).mono ?_;rintro e w4 ⟨u4,F4,rfl,k1,k2,k3⟩;have b3':=k3.cell hC.half.notl.1 b3;have f3':=(k3.frozen (o:=3) hC.half.notl.1 (hC.half.lt _ (by simp))).trans f3))
   all_goals
    go_wp2_with fail
    go_meet
    exact⟨_,_,hC.drew.setl k1 k2 k3⟩
  case rest =>
   obtain⟨u4,F4,hD⟩:=hcut;clear hC
   go_upto_region 9 with fail
   go_cut [54] from 46 to 56 (fun _ wx=>∃ (u5:Option Addr) (F5:List Nat),a2j wx bk 0 tl tr u4 u5 F4 F5/\Off ([]:List Nat) w wx/\∀ k∈bk :: (F4++F5),k∈([]:List Nat)\/w.heap.size<=k)
   case first =>
    have b3:=hD.half.c4;have f3:=hD.half.fz 4;have a0:=hD.a0;have a1:=hD.a1;have m0:=hD.n0;have m1:=hD.n1
    go_region_with (first
     |(go_at_call 261;refine (I2.out _ _ _ hD.half.drew.r).mono ?_;rintro e w5 ⟨u5,F5,rfl,k1,k2,k3⟩;have b3':=k3.cell hD.half.notl.2.1 b3;have f3':=(k3.frozen (o:=4) hD.half.notl.2.1 (hD.half.lt _ (by simp))).trans f3))
    all_goals
     go_wp2_with fail
     go_meet
     exact⟨_,_,hD.drew.setr k1 k2 k3⟩
   case rest =>
    obtain⟨u5,F5,k1,k2,k3⟩:=hcut;clear hD I1 I2
    go_wp2_with fail
    refine (a4k _ _ _ _ _ _ _ _ _ k1 HB2.out).mono ?_;rintro e w6 ⟨u6,F6,rfl,n1,n2,n3⟩;have HK:=a0b (a8B k2 k3 (by simp) n1 n2 n3);clear k1 k2 k3 n1 n2 n3
    go_wp2_with fail
    go_ret;exact HK.out
 |node c l r =>
  obtain⟨bk,pl,pr,Fl,Fr,rfl,rfl,hh⟩:=a7G h;simp only[Lev.val,Lev.fst,Lev.snd] at HB2 I1 I2 ⊢
  go_enter Tryz.func261,Tryz.ntmps261
  go_wp2_with fail
  refine (a0N _ _ _ _ _).mono ?_;rintro e w1 ⟨rfl,hb⟩;rw[hp];have bx:=boxes hb;have ⟨q0,q1,q2,q3,hs,hB⟩:=bx;have HB:=a0b hB;have hs0:w.heap.size<w1.heap.size:=by omega
  clear hB hb bx
  go_wp2_with fail
  refine (a2v _ _ _ _ _).mono ?_;rintro e w2 ⟨rfl,hb⟩;rw[hw];have hH:=hh.off (G:=[]) ((Off.of_below HB.out).trans (Off.of_below hb)) (by simp) (by simp) (by simp);have hO:Off (bk :: (Fl++Fr)) w w2:=(Off.of_below HB.out).trans (Off.of_below hb);have hG:∀ k∈bk :: (Fl++Fr),k∈bk :: (Fl++Fr)\/w.heap.size<=k:=fun _ hk=>.inl hk
  have hne:w.heap.size+1 ∉ bk :: (Fl++Fr):=fun e=>by have:=hh.lt _ e;omega
  have r0:w2.cell? ⟨w.heap.size,0,none⟩=some (.int .i64 lo):=a0a hb q0;have r1:w2.cell? ⟨w.heap.size,1,none⟩=some (.int .i64 hi):=a0a hb q1;have r2:w2.cell? ⟨w.heap.size+1,0,none⟩=some (.int .i64 a):=a0a hb q2;have r3:w2.cell? ⟨w.heap.size+1,1,none⟩=some (.int .i64 b):=a0a hb q3;have hs2:w.heap.size+1<w2.heap.size:=zL hs hb.size;clear hb q0 q1 q2 q3 hs hs0 HB h hh
  go_wp2_with fail
  refine (a4c _ _ _ (by omega) (by omega) (by omega)).mono ?_;rintro e w3 ⟨rfl,hb⟩;have hC:a2P w _ _ _ _ c lo hi a b _ _ _ _ _ _:=a9I (w3:=w3) hH hO hG r2 r3 hne hb;clear hb hH hO hG r0 r1 r2 r3 hne hs2
  go_upto_region 8 with fail
  generalize (World.alloc _ (.cells #[.int .i64 (Lev.mid lo hi),.int .i64 hi] 60))=X at hC ⊢;generalize w3.heap.size=M at hC ⊢
  go_cut [43] from 35 to 45 (fun _ wx=>∃ (u4:Option Addr) (F4:List Nat),a2P w wx (bk :: (Fl++Fr)) bk M c lo hi a b tl r u4 pr F4 Fr)
  case first =>
   have b3:=hC.half.c3;have f3:=hC.half.fz 3;have a0:=hC.a0;have a1:=hC.a1;have m0:=hC.m0;have m1:=hC.m1
   go_region_with (first
    |(go_at_call 261;refine (I1.out _ _ _ hC.half.drew.l).mono ?_;rintro e w4 ⟨u4,F4,rfl,k1,k2,k3⟩;have b3':=k3.cell hC.half.notl.1 b3;have f3':=(k3.frozen (o:=3) hC.half.notl.1 (hC.half.lt _ (by simp))).trans f3))
   all_goals
    go_wp2_with fail
    go_meet
    exact⟨_,_,hC.drew.setl k1 k2 k3⟩
  case rest =>
   obtain⟨u4,F4,hD⟩:=hcut;clear hC
   go_upto_region 9 with fail
   go_cut [54] from 46 to 56 (fun _ wx=>∃ (u5:Option Addr) (F5:List Nat),a2j wx bk c tl tr u4 u5 F4 F5/\Off (bk :: (Fl++Fr)) w wx/\∀ k∈bk :: (F4++F5),k∈(bk :: (Fl++Fr))\/w.heap.size<=k)
   case first =>
    have b3:=hD.half.c4;have f3:=hD.half.fz 4;have a0:=hD.a0;have a1:=hD.a1;have m0:=hD.n0;have m1:=hD.n1
    go_region_with (first
     |(go_at_call 261;refine (I2.out _ _ _ hD.half.drew.r).mono ?_;rintro e w5 ⟨u5,F5,rfl,k1,k2,k3⟩;have b3':=k3.cell hD.half.notl.2.1 b3;have f3':=(k3.frozen (o:=4) hD.half.notl.2.1 (hD.half.lt _ (by simp))).trans f3))
    all_goals
     go_wp2_with fail
     go_meet
     exact⟨_,_,hD.drew.setr k1 k2 k3⟩
   case rest =>
    obtain⟨u5,F5,k1,k2,k3⟩:=hcut;clear hD I1 I2
    go_wp2_with fail
    refine (a4k _ _ _ _ _ _ _ _ _ k1 HB2.out).mono ?_;rintro e w6 ⟨u6,F6,rfl,n1,n2,n3⟩;have HK:=a0b (a8B k2 k3 (by simp) n1 n2 n3);clear k1 k2 k3 n1 n2 n3
    go_wp2_with fail
    go_ret;exact HK.out
theorem c5F:∀ n,c1J n:=by
 intro n
 induction n with
 |zero =>
  intro t u F lo hi a b x w h h0 h1 h2 h3 h4 hx1 hx2 hB1 hB2;have h3:hi-lo<=1:=by simpa using h3
  cases hp:Lev.apart lo hi a b
  ·have g:=Lev.a1r.1 hp;exact b1i t u F lo hi a b x 0 w h hp (Lev.a3k.2 (by omega)) hx1 hx2 hB1 hB2
  ·exact b3X t u F lo hi a b x 0 w h hp
 |succ n ih =>
  intro t u F lo hi a b x w h h0 h1 h2 h3 h4 hx1 hx2 hB1 hB2
  cases hp:Lev.apart lo hi a b
  ·cases hw:Lev.within lo hi a b
   ·exact c1A n ih t u F lo hi a b x w h hp hw h0 h1 h2 h3 h4 hx1 hx2 hB1 hB2
   ·exact b1i t u F lo hi a b x _ w h hp hw hx1 hx2 hB1 hB2
  ·exact b3X t u F lo hi a b x _ w h hp
end Go.Proofs.YtfigmlfdnickmaaGreatDoor
