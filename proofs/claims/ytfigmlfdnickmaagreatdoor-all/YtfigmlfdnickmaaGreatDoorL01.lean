import Derived.Test.YtfigmlfdnickmaaGreatDoorProg
import Derived.WalkKit
import Derived.WalkSpells
import Derived.WalkLawsBesides
import Derived.Deep.QuietTactic
import Derived.BigQuiet
import Derived.Deep.RegionHeld3
import Derived.Deep.RegionWith
import Derived.Deep.CutRange
set_option maxRecDepth 100000
set_option maxHeartbeats 8000000
variable{a c hi level lo long st y5 y6:Int}{f:Int->Int}{F F' Fl Fr G:List Nat}{M N b bk fn n o:Nat}{pl pr u:Option Go.Addr}{p v:Go.Value}{X w w' w'' w1 w2 w4:Go.World}
namespace Go.Proofs.YtfigmlfdnickmaaGreatDoor
open Go.RowKit
theorem zq(n:Nat):n<=n:=Nat.le_refl n
theorem zS(w:World)(a b:Addr)(v:Value)(h:a≠b):(w.setCell a v).cell? b=w.cell? b:=w.cell?_setCell_other a b v h
theorem zr(b:Nat)(w:World):Below b w w:=Below.refl b w
theorem zL{m k:Nat}(h:n<m)(g:m<=k):n<k:=Nat.lt_of_lt_of_le h g
theorem zm(w:World)(a:Addr)(v:Value){u:Value}(h:w.cell? a=some u):(w.setCell a v).cell? a=some v:=w.cell?_setCell_same a v h
theorem zF(w:World)(a b:Addr)(v:Value):(w.setCell a v).frozen? b=w.frozen? b:=w.frozen?_setCell a b v
theorem zo{a:Addr}(h:w'.heap[a.block]?=w.heap[a.block]?):w'.cell? a=w.cell? a:=World.cell?_of_block h
theorem zN(n:Nat):0<=n:=n.zero_le
theorem zg{α:Type _}{l:List α}(h:n<l.length):l[n]∈l:=List.getElem_mem h
theorem a2C{a b:Bool}(h:a=b):Ending.returned (.bool a)=.returned (.bool b):=by rw[h]
theorem a1L{k:IntKind}{b:Int}(h:a=b):Ending.returned (.int k a)=.returned (.int k b):=by rw[h]
theorem a0b{p:Prop}(h:p):Hid p:=h
theorem a0i{x:Int}(h1:-1000000000000<=x)(h2:x<=1000000000000):IntKind.i64.wrap x=x:=by
 rw[IntKind.wrap_i64];omega
theorem a7z(x y:Int):(if x<y then y else x)=max x y:=by split <;> omega
theorem c0o(x y:Int):(if y<x then y else x)=min x y:=by split <;> omega
theorem c0q(c x y:Int):(c+if x<y then y else x)=c+max x y:=by split <;> omega
theorem c6g(c x y:Int):(c+if y<x then y else x)=c+min x y:=by split <;> omega
theorem a0j{B:Nat}(h:Below B w w')(k:Below w'.heap.size w' w'')(hB:B<=w.heap.size):Below B w w'':=h.trans (k.mono (Nat.le_trans hB h.size))
theorem a0q(w:World):Below w.heap.size w w.drew:=(zr _ _).drew
structure Off(F:List Nat)(w w':World):Prop where
 os:w'.os=w.os
 tape:w'.tape=w.tape
 output:w'.output=w.output
 size:w.heap.size<=w'.heap.size
 block:∀ k,k<w.heap.size->k ∉ F->w'.heap[k]?=w.heap[k]?
theorem Off.refl(F:List Nat)(w:World):Off F w w:=⟨rfl,rfl,rfl,Nat.le_refl _,fun _ _ _=>rfl⟩
theorem Off.trans'{a b c:World}(h:Off F a b)(k:Off G b c)(hg:∀ x∈G,x∈F\/a.heap.size<=x):Off F a c :=
 ⟨k.os.trans h.os,k.tape.trans h.tape,k.output.trans h.output,Nat.le_trans h.size k.size,fun i hi hr =>
  (k.block i (zL hi h.size) (fun hx=>by rcases hg i hx with h1|h1;exact hr h1;omega)).trans (h.block i hi hr)⟩
theorem Off.trans{a b c:World}(h:Off F a b)(k:Off F b c):Off F a c:=h.trans' k (fun _ hx=>.inl hx)
theorem Off.mono{a b:World}(h:Off F a b)(hs:∀ x∈F,x∈G):Off G a b :=
 ⟨h.os,h.tape,h.output,h.size,fun i hi hr=>h.block i hi (fun hx=>hr (hs i hx))⟩
theorem Off.of_below(h:Below w.heap.size w w'):Off F w w':=⟨h.os,h.tape,h.output,h.size,fun k hk _=>h.block k hk⟩
theorem Off.drew(h:Off F w w'):Off F w w'.drew:=⟨h.os,h.tape,h.output,h.size,h.block⟩
theorem Off.alloc(h:Off F w w')(o:Obj):Off F w (w'.alloc o) :=
 h.trans (Off.of_below ((zr _ _).alloc (zq _) o))
theorem Off.set0(R:Nat)(w':World)(o:Nat)(v:Value):Off [R] w' (w'.setCell ⟨R,o,none⟩ v) :=
 ⟨(Below.setCell (B:=0) (Below.refl 0 w') (zN _) v).os,(Below.setCell (B:=0) (Below.refl 0 w') (zN _) v).tape,(Below.setCell (B:=0) (Below.refl 0 w') (zN _) v).output,(Below.setCell (B:=0) (Below.refl 0 w') (p:=⟨R,o,none⟩) (zN _) v).size,fun k _ hr=>Below.heap_setCell w' _ v k (by simpa using hr)⟩
theorem Off.setCell(h:Off F w w'){R:Nat}(hR:R∈F\/w.heap.size<=R)(o:Nat)(v:Value):Off F w (w'.setCell ⟨R,o,none⟩ v) :=
 h.trans' (Off.set0 R w' o v) (fun x hx=>by simp at hx;subst hx;exact hR)
theorem Off.cell(h:Off F w w')(hne:b ∉ F)(hc:w.cell? ⟨b,o,none⟩=some v):w'.cell? ⟨b,o,none⟩=some v :=
 (zo (w:=w) (h.block b (World.block_lt_of_cell? _ _ hc) hne)).trans hc
theorem Off.frozen(h:Off F w w')(hne:b ∉ F)(hb:b<w.heap.size):w'.frozen? ⟨b,o,none⟩=w.frozen? ⟨b,o,none⟩:=by
 have e:=h.block b hb hne;simp only[World.frozen?,e]
theorem a0a(h:Below w.heap.size w w')(hc:w.cell? ⟨b,o,none⟩=some v):w'.cell? ⟨b,o,none⟩=some v :=
 (h.cell (p:=⟨b,o,none⟩) (World.block_lt_of_cell? _ _ hc)).trans hc
namespace Lev
inductive T where
 |nil:T
 |node (a:Int) (l r:T):T
def top:T->Int
 |.nil=>0
 |.node a l r=>a+max (top l) (top r)
def bot:T->Int
 |.nil=>0
 |.node a l r=>a+min (bot l) (bot r)
def isNil:T->Bool
 |.nil=>true
 |.node ..=>false
def val:T->Int
 |.nil=>0
 |.node a _ _=>a
def fst:T->T
 |.nil=>.nil
 |.node _ l _=>l
def snd:T->T
 |.nil=>.nil
 |.node _ _ r=>r
def flat(t:T):Bool:=isNil (fst t) && isNil (snd t)
def mk(a:Int)(l r:T):T:=if a=0/\isNil l=true/\isNil r=true then .nil else .node a l r
theorem a3f{t:T}(h:isNil t=true):t=.nil:=by cases t <;> simp_all [isNil]
@[simp] theorem val_mk (a:Int) (l r:T):val (mk a l r)=a:=by
 unfold mk;split
 ·rename_i h;simp[val,h.1]
 ·rfl
@[simp] theorem fst_mk (a:Int) (l r:T):fst (mk a l r)=l:=by
 unfold mk;split
 ·rename_i h;rw[a3f h.2.1];rfl
 ·rfl
@[simp] theorem snd_mk (a:Int) (l r:T):snd (mk a l r)=r:=by
 unfold mk;split
 ·rename_i h;rw[a3f h.2.2];rfl
 ·rfl
def mid(lo hi:Int):Int:=(lo+hi) / 2
def apart(lo hi a b:Int):Bool:=decide (hi<=a) || decide (b<=lo)
def within(lo hi a b:Int):Bool:=decide (a<=lo) && decide (hi<=b)
theorem a3A{b:Int}:apart lo hi a b=true↔hi<=a\/b<=lo:=by simp[apart]
theorem a1r{b:Int}:apart lo hi a b=false↔a<hi/\lo<b:=by
 rw[<- Bool.not_eq_true,a3A];omega
theorem a3k{b:Int}:within lo hi a b=true↔a<=lo/\hi<=b:=by simp[within]
theorem a3W{b:Int}:within lo hi a b=false↔¬ (a<=lo/\hi<=b):=by
 rw[<- Bool.not_eq_true,a3k]
def a6q:Nat->T->Int->Int->Int->Int->Int->T
 |n,t,lo,hi,a,b,u =>
  if apart lo hi a b then t
  else if within lo hi a b then mk (val t+u) (fst t) (snd t)
  else match n with
   |0=>t
   |n+1=>mk (val t) (a6q n (fst t) lo (mid lo hi) a b u) (a6q n (snd t) (mid lo hi) hi a b u)
def canon:Nat->(List Bool->Int)->Int->Int->T
 |0,A,_,_=>mk (A []) .nil .nil
 |n+1,A,lo,hi =>
  if hi-lo<=1 then mk (A []) .nil .nil
  else mk (A []) (canon n (fun p=>A (false :: p)) lo (mid lo hi)) (canon n (fun p=>A (true :: p)) (mid lo hi) hi)
def chi:Int->Int->Int->Int->List Bool->Int
 |lo,hi,a,b,[]=>if apart lo hi a b then 0 else if within lo hi a b then 1 else 0
 |lo,hi,a,b,false :: p=>if apart lo hi a b then 0 else if within lo hi a b then 0 else chi lo (mid lo hi) a b p
 |lo,hi,a,b,true :: p=>if apart lo hi a b then 0 else if within lo hi a b then 0 else chi (mid lo hi) hi a b p
theorem a9N{b:Int}(h:apart lo hi a b=true):∀ p,chi lo hi a b p=0
 |[]=>by simp[chi,h]
 |false :: p=>by simp[chi,h]
 |true :: p=>by simp[chi,h]
theorem c1r:∀ (p:List Bool)(lo hi a b:Int),0<=chi lo hi a b p/\chi lo hi a b p<=1
 |[],lo,hi,a,b=>by simp only[chi];split <;> (try split) <;> omega
 |false :: p,lo,hi,a,b=>by
   simp only[chi];split
   ·omega
   ·split
    ·omega
    ·exact c1r p _ _ _ _
 |true :: p,lo,hi,a,b=>by
   simp only[chi];split
   ·omega
   ·split
    ·omega
    ·exact c1r p _ _ _ _
theorem b1B(h:hi-lo<=2 ^ (n+1)):mid lo hi-lo<=2 ^ n/\hi-mid lo hi<=2 ^ n:=by
 unfold mid;rw[Int.pow_succ] at h;omega
theorem b5v:∀ {A B:List Bool->Int}{lo hi:Int},(∀ p,A p=B p)->canon n A lo hi=canon n B lo hi:=by
 intro A B lo hi h;rw[show A=B from funext h]
theorem b8T:∀ (n:Nat)(A:List Bool->Int)(lo hi a b u:Int),lo<hi->hi-lo<=2 ^ n->a<b ->
  a6q n (canon n A lo hi) lo hi a b u=canon n (fun p=>A p+u*chi lo hi a b p) lo hi:=by
 intro n
 induction n with
 |zero =>
  intro A lo hi a b u h1 h2 h3;have h2:hi-lo<=1:=by simpa using h2
  unfold a6q
  split
  ·rename_i h;simp[canon,a9N h]
  ·rename_i h
   rw[Bool.not_eq_true,a1r] at h;have hw:within lo hi a b=true:=a3k.2 (by omega);have hp:apart lo hi a b=false:=a1r.2 h;rw[if_pos hw];simp[canon,chi,hw,hp]
 |succ n ih =>
  intro A lo hi a b u h1 h2 h3;unfold a6q
  split
  ·rename_i h;exact b5v (by intro p;simp[a9N h])
  ·rename_i h
   have hp:apart lo hi a b=false:=by simpa using h
   split
   ·rename_i hw
    simp only[canon]
    split
    ·simp[chi,hp,hw]
    ·simp[chi,hp,hw]
   ·rename_i hw
    have hw:within lo hi a b=false:=by simpa using hw
    have h4:=a1r.1 hp;have h5:=a3W.1 hw;have h6:¬ hi-lo<=1:=by omega
    have hm:lo<mid lo hi/\mid lo hi<hi:=by unfold mid;omega
    have hh:=b1B h2;simp only[canon,if_neg h6,val_mk,fst_mk,snd_mk];rw[ih _ _ _ _ _ _ hm.1 hh.1 h3,ih _ _ _ _ _ _ hm.2 hh.2 h3];simp[chi,hp,hw]
def lev:T->Int->Int->Int->Int
 |.nil,_,_,_=>0
 |.node a l r,lo,hi,x=>a+if x<mid lo hi then lev l lo (mid lo hi) x else lev r (mid lo hi) hi x
theorem a5T(a:Int)(l r:T)(lo hi x:Int):lev (mk a l r) lo hi x=a+if x<mid lo hi then lev l lo (mid lo hi) x else lev r (mid lo hi) hi x:=by
 unfold mk;split
 ·rename_i h;rw[a3f h.2.1,a3f h.2.2];simp[lev,h.1]
 ·rfl
def Good:T->Int->Int->Prop
 |.nil,_,_=>True
 |.node a l r,lo,hi=>0<=a/\((isNil l=true/\isNil r=true)\/2<=hi-lo)/\Good l lo (mid lo hi)/\Good r (mid lo hi) hi
theorem Good.mk{l r:T}(h0:0<=a)(h1:(isNil l=true/\isNil r=true)\/2<=hi-lo)(h2:Good l lo (mid lo hi))(h3:Good r (mid lo hi) hi):Good (Lev.mk a l r) lo hi:=by
 unfold Lev.mk;split
 ·trivial
 ·exact⟨h0,h1,h2,h3⟩
theorem b8K:∀ (n:Nat)(A:List Bool->Int)(lo hi:Int),(∀ p,0<=A p)->Good (canon n A lo hi) lo hi:=by
 intro n
 induction n with
 |zero=>intro A lo hi h;exact Good.mk (h _) (.inl ⟨rfl,rfl⟩) trivial trivial
 |succ n ih =>
  intro A lo hi h;simp only[canon]
  split
  ·exact Good.mk (h _) (.inl ⟨rfl,rfl⟩) trivial trivial
  ·exact Good.mk (h _) (.inr (by omega)) (ih _ _ _ (fun p=>h _)) (ih _ _ _ (fun p=>h _))
theorem b1L:∀ (n:Nat)(A:List Bool->Int)(lo hi a b u x:Int),lo<=x->x<hi->hi-lo<=2 ^ n->a<b ->
  lev (canon n (fun p=>A p+u*chi lo hi a b p) lo hi) lo hi x=lev (canon n A lo hi) lo hi x+if a<=x/\x<b then u else 0:=by
 intro n
 induction n with
 |zero =>
  intro A lo hi a b u x h0 h1 h2 h3;have h2:hi-lo<=1:=by simpa using h2
  simp only[canon,a5T,lev,chi]
  cases hp:apart lo hi a b
  ·have h4:=a1r.1 hp;have hw:within lo hi a b=true:=a3k.2 (by omega);rw[hw,if_pos (by omega:a<=x/\x<b)];simp
  ·have h4:=a3A.1 hp;rw[if_neg (by omega:¬ (a<=x/\x<b))];simp
 |succ n ih =>
  intro A lo hi a b u x h0 h1 h2 h3;simp only[canon];have hh:=b1B h2
  cases hp:apart lo hi a b
  ·have h4:=a1r.1 hp
   cases hw:within lo hi a b
   ·have h5:=a3W.1 hw;have h6:¬ hi-lo<=1:=by omega
    rw[if_neg h6,if_neg h6,a5T,a5T];simp only[chi,hp,hw]
    by_cases hx:x<mid lo hi
    ·rw[if_pos hx,if_pos hx];have:=ih (fun p=>A (false :: p)) lo (mid lo hi) a b u x h0 hx hh.1 h3;simp at this ⊢;omega
    ·rw[if_neg hx,if_neg hx];have:=ih (fun p=>A (true :: p)) (mid lo hi) hi a b u x (by omega) h1 hh.2 h3;simp at this ⊢;omega
   ·have h5:=a3k.1 hw;rw[if_pos (by omega:a<=x/\x<b)]
    split
    ·rw[a5T,a5T];simp[chi,hp,hw,lev]
    ·rw[a5T,a5T];simp[chi,hp,hw];omega
  ·have h4:=a3A.1 hp;rw[if_neg (by omega:¬ (a<=x/\x<b))];simp[a9N hp]
theorem b0h:∀ (n:Nat)(lo hi x:Int),lev (canon n (fun _=>0) lo hi) lo hi x=0:=by
 intro n
 induction n with
 |zero=>intro lo hi x;simp[canon,a5T,lev]
 |succ n ih =>
  intro lo hi x;simp only[canon]
  split
  ·simp[a5T,lev]
  ·rw[a5T,ih,ih];simp
theorem a2O:∀ (t:T)(lo hi x:Int),Good t lo hi->0<=lev t lo hi x:=by
 intro t
 induction t with
 |nil=>intro lo hi x _;simp[lev]
 |node a l r ihl ihr =>
  intro lo hi x h;have h1:=ihl lo (mid lo hi) x h.2.2.1;have h2:=ihr (mid lo hi) hi x h.2.2.2;have h3:=h.1;simp only[lev];split <;> omega
theorem a7g{t:T}(h:isNil t=true):top t=0/\bot t=0:=by rw[a3f h];exact⟨rfl,rfl⟩
theorem a7A{t:T}(h:isNil t=true)(lo hi x:Int):lev t lo hi x=0:=by rw[a3f h];rfl
theorem a8H:∀ (t:T)(lo hi:Int),lo<hi->Good t lo hi->(∀ x,lo<=x->x<hi->lev t lo hi x<=top t)/\∃ x,lo<=x/\x<hi/\lev t lo hi x=top t:=by
 intro t
 induction t with
 |nil=>intro lo hi h _;exact⟨fun x _ _=>by simp[lev,top],lo,by omega,h,rfl⟩
 |node a l r ihl ihr =>
  intro lo hi h g;rcases g.2.1 with ⟨e1,e2⟩|h2
  ·have t1:=a7g e1;have t2:=a7g e2;simp only[lev,top,a7A e1,a7A e2,t1,t2];exact⟨fun x _ _=>by split <;> omega,lo,by omega,h,by split <;> omega⟩
  ·have hm:lo<mid lo hi/\mid lo hi<hi:=by unfold mid;omega
   obtain⟨l1,x1,l2,l3,l4⟩:=ihl lo (mid lo hi) hm.1 g.2.2.1;obtain⟨r1,x2,r2,r3,r4⟩:=ihr (mid lo hi) hi hm.2 g.2.2.2;simp only[lev,top];refine⟨fun x a1 a2=>?_,?_⟩
   ·split
    ·have:=l1 x a1 (by omega);omega
    ·have:=r1 x (by omega) a2;omega
   ·by_cases hc:top r<=top l
    ·exact⟨x1,l2,by omega,by rw[if_pos l3];omega⟩
    ·exact⟨x2,by omega,r3,by rw[if_neg (by omega)];omega⟩
theorem c6K:∀ (t:T)(lo hi:Int),lo<hi->Good t lo hi->(∀ x,lo<=x->x<hi->bot t<=lev t lo hi x)/\∃ x,lo<=x/\x<hi/\lev t lo hi x=bot t:=by
 intro t
 induction t with
 |nil=>intro lo hi h _;exact⟨fun x _ _=>by simp[lev,bot],lo,by omega,h,rfl⟩
 |node a l r ihl ihr =>
  intro lo hi h g;rcases g.2.1 with ⟨e1,e2⟩|h2
  ·have t1:=a7g e1;have t2:=a7g e2;simp only[lev,bot,a7A e1,a7A e2,t1,t2];exact⟨fun x _ _=>by split <;> omega,lo,by omega,h,by split <;> omega⟩
  ·have hm:lo<mid lo hi/\mid lo hi<hi:=by unfold mid;omega
   obtain⟨l1,x1,l2,l3,l4⟩:=ihl lo (mid lo hi) hm.1 g.2.2.1;obtain⟨r1,x2,r2,r3,r4⟩:=ihr (mid lo hi) hi hm.2 g.2.2.2;simp only[lev,bot];refine⟨fun x a1 a2=>?_,?_⟩
   ·split
    ·have:=l1 x a1 (by omega);omega
    ·have:=r1 x (by omega) a2;omega
   ·by_cases hc:bot l<=bot r
    ·exact⟨x1,l2,by omega,by rw[if_pos l3];omega⟩
    ·exact⟨x2,by omega,r3,by rw[if_neg (by omega)];omega⟩
def a2g:T->Int->Int->Int->Int->Int
 |.nil,_,_,_,_=>0
 |.node c l r,lo,hi,a,b =>
  if apart lo hi a b then 0
  else if within lo hi a b then c+max (top l) (top r)
  else c+max (a2g l lo (mid lo hi) a b) (a2g r (mid lo hi) hi a b)
theorem a4p{t:T}{b:Int}(h:apart lo hi a b=true):a2g t lo hi a b=0:=by
 cases t <;> simp[a2g,h]
theorem b6E:∀ (t:T)(lo hi a b:Int),lo<hi->a<b->Good t lo hi->apart lo hi a b=false ->
  0<=a2g t lo hi a b/\(∀ x,lo<=x->x<hi->a<=x->x<b->lev t lo hi x<=a2g t lo hi a b)/\∃ x,lo<=x/\x<hi/\a<=x/\x<b/\lev t lo hi x=a2g t lo hi a b:=by
 intro t
 induction t with
 |nil =>
  intro lo hi a b h h' _ hp;have:=a1r.1 hp;exact⟨Int.le_refl _,fun x _ _ _ _=>by simp[lev,a2g],max lo a,by omega,by omega,by omega,by omega,rfl⟩
 |node c l r ihl ihr =>
  intro lo hi a b h h' g hp;have hp':=a1r.1 hp
  cases hw:within lo hi a b
  ·have hw':=a3W.1 hw;have hm:lo<mid lo hi/\mid lo hi<hi:=by unfold mid;omega
   have e:a2g (.node c l r) lo hi a b=c+max (a2g l lo (mid lo hi) a b) (a2g r (mid lo hi) hi a b):=by simp[a2g,hp,hw]
   have g0:=g.1;rw[e];simp only[lev]
   cases pl:apart lo (mid lo hi) a b
   ·obtain⟨l0,l1,x1,l2,l3,l4,l5,l6⟩:=ihl lo (mid lo hi) a b hm.1 h' g.2.2.1 pl
    cases pr:apart (mid lo hi) hi a b
    ·obtain⟨r0,r1,x2,r2,r3,r4,r5,r6⟩:=ihr (mid lo hi) hi a b hm.2 h' g.2.2.2 pr;refine⟨by omega,fun x a1 a2 a3 a4=>?_,?_⟩
     ·split
      ·have:=l1 x a1 (by omega) a3 a4;omega
      ·have:=r1 x (by omega) a2 a3 a4;omega
     ·by_cases hc:a2g r (mid lo hi) hi a b<=a2g l lo (mid lo hi) a b
      ·exact⟨x1,l2,by omega,l4,l5,by rw[if_pos l3];omega⟩
      ·exact⟨x2,by omega,r3,r4,r5,by rw[if_neg (by omega)];omega⟩
    ·have pr':=a3A.1 pr;have z:=a4p (t:=r) pr;refine⟨by omega,fun x a1 a2 a3 a4=>?_,x1,l2,by omega,l4,l5,by rw[if_pos l3];omega⟩;rw[if_pos (by omega)];have:=l1 x a1 (by omega) a3 a4;omega
   ·have pl':=a3A.1 pl;have z:=a4p (t:=l) pl;have pr:apart (mid lo hi) hi a b=false:=a1r.2 (by omega);obtain⟨r0,r1,x2,r2,r3,r4,r5,r6⟩:=ihr (mid lo hi) hi a b hm.2 h' g.2.2.2 pr;refine⟨by omega,fun x a1 a2 a3 a4=>?_,x2,by omega,r3,r4,r5,by rw[if_neg (by omega)];omega⟩;rw[if_neg (by omega)];have:=r1 x (by omega) a2 a3 a4;omega
  ·have hw':=a3k.1 hw;have e:a2g (.node c l r) lo hi a b=top (.node c l r):=by simp[a2g,hp,hw,top]
   obtain⟨t1,x,t2,t3,t4⟩:=a8H (.node c l r) lo hi h g;rw[e];have:=a2O (.node c l r) lo hi x g;exact⟨by omega,fun y a1 a2 _ _=>t1 y a1 a2,x,t2,t3,by omega,by omega,t4⟩
def a2X(up:Bool)(level:Int)(t:T)(c:Int):Bool:=if up then decide (level<c+top t) else decide (c+bot t<=level)
def want(up:Bool)(level x:Int):Prop:=if up then level<x else x<=level
def fm(up:Bool)(level:Int):T->Int->Int->Int->Int->Int->Option Int
 |.nil,lo,hi,a,b,c=>if apart lo hi a b || !a2X up level .nil c then none else some (max lo a)
 |.node v l r,lo,hi,a,b,c =>
  if apart lo hi a b || !a2X up level (.node v l r) c then none
  else if isNil l && isNil r then some (max lo a)
  else match fm up level l lo (mid lo hi) a b (c+v) with
   |some x=>some x
   |none=>fm up level r (mid lo hi) hi a b (c+v)
theorem b5N{up:Bool}{t:T}(h:a2X up level t c=false)(hl:lo<hi)(g:Good t lo hi):∀ x,lo<=x->x<hi->¬ want up level (c+lev t lo hi x):=by
 intro x h1 h2
 cases up
 ·have:=(c6K t lo hi hl g).1 x h1 h2;simp[a2X,want] at h ⊢;omega
 ·have:=(a8H t lo hi hl g).1 x h1 h2;simp[a2X,want] at h ⊢;omega
theorem b0p{up:Bool}{t:T}(h:a2X up level t c=true)(hf:∀ x,lev t lo hi x=val t)(ht:top t=val t)(hb:bot t=val t):∀ x,want up level (c+lev t lo hi x):=by
 intro x;rw[hf x]
 cases up
 ·simp[a2X,want,hb] at h ⊢;omega
 ·simp[a2X,want,ht] at h ⊢;omega
def a6o(P:Int->Prop)(lo hi a b:Int):Option Int->Prop
 |none=>∀ x,lo<=x->x<hi->a<=x->x<b->¬ P x
 |some x=>lo<=x/\x<hi/\a<=x/\x<b/\P x/\∀ y,lo<=y->y<x->a<=y->¬ P y
theorem c6r(up:Bool)(level:Int):∀ (t:T)(lo hi a b c:Int),lo<hi->a<b->Good t lo hi->a6o (fun x=>want up level (c+lev t lo hi x)) lo hi a b (fm up level t lo hi a b c):=by
 intro t
 induction t with
 |nil =>
  intro lo hi a b c h h' g;unfold fm
  cases hp:apart lo hi a b
  ·have hp':=a1r.1 hp
   cases hw:a2X up level .nil c
   ·simp only[Bool.false_or,Bool.not_false,if_true];exact fun x h1 h2 _ _=>b5N hw h g x h1 h2
   ·simp only[Bool.false_or,Bool.not_true,Bool.false_eq_true,if_false];exact⟨by omega,by omega,by omega,by omega,b0p hw (fun _=>rfl) rfl rfl _,fun y _ _ _=>by omega⟩
  ·have hp':=a3A.1 hp;simp only[Bool.true_or,if_true];exact fun x _ _ _ _=>by omega
 |node v l r ihl ihr =>
  intro lo hi a b c h h' g;unfold fm
  cases hp:apart lo hi a b
  ·have hp':=a1r.1 hp
   cases hw:a2X up level (.node v l r) c
   ·simp only[Bool.false_or,Bool.not_false,if_true];exact fun x h1 h2 _ _=>b5N hw h g x h1 h2
   ·simp only[Bool.false_or,Bool.not_true,Bool.false_eq_true,if_false]
    cases hf:isNil l && isNil r
    ·simp only[Bool.false_eq_true,if_false]
     have h2:2<=hi-lo:=by
      rcases g.2.1 with ⟨e1,e2⟩|h2
      ·simp[e1,e2] at hf
      ·exact h2
     have hm:lo<mid lo hi/\mid lo hi<hi:=by unfold mid;omega
     have kl:=ihl lo (mid lo hi) a b (c+v) hm.1 h' g.2.2.1;have kr:=ihr (mid lo hi) hi a b (c+v) hm.2 h' g.2.2.2
     cases el:fm up level l lo (mid lo hi) a b (c+v) with
     |some x =>
      rw[el] at kl;obtain⟨k1,k2,k3,k4,k5,k6⟩:=kl;refine⟨k1,by omega,k3,k4,?_,fun y a1 a2 a3=>?_⟩
      ·show want up level (c+lev (.node v l r) lo hi x);simp only[lev];rw[if_pos k2,<- Int.add_assoc];exact k5
      ·show ¬ want up level (c+lev (.node v l r) lo hi y);simp only[lev];rw[if_pos (by omega),<- Int.add_assoc];exact k6 y a1 a2 a3
     |none =>
      rw[el] at kl;have kl:∀ x,lo<=x->x<mid lo hi->a<=x->x<b->¬ want up level (c+v+lev l lo (mid lo hi) x):=kl
      cases er:fm up level r (mid lo hi) hi a b (c+v) with
      |some x =>
       rw[er] at kr;obtain⟨k1,k2,k3,k4,k5,k6⟩:=kr;refine⟨by omega,k2,k3,k4,?_,fun y a1 a2 a3=>?_⟩
       ·show want up level (c+lev (.node v l r) lo hi x);simp only[lev];rw[if_neg (by omega),<- Int.add_assoc];exact k5
       ·show ¬ want up level (c+lev (.node v l r) lo hi y);simp only[lev]
        by_cases hy:y<mid lo hi
        ·rw[if_pos hy,<- Int.add_assoc];exact kl y a1 hy a3 (by omega)
        ·rw[if_neg hy,<- Int.add_assoc];exact k6 y (by omega) a2 a3
      |none =>
       rw[er] at kr;have kr:∀ x,mid lo hi<=x->x<hi->a<=x->x<b->¬ want up level (c+v+lev r (mid lo hi) hi x):=kr;intro y a1 a2 a3 a4;show ¬ want up level (c+lev (.node v l r) lo hi y);simp only[lev]
       by_cases hy:y<mid lo hi
       ·rw[if_pos hy,<- Int.add_assoc];exact kl y a1 hy a3 a4
       ·rw[if_neg hy,<- Int.add_assoc];exact kr y (by omega) a2 a3 a4
    ·simp only[if_true];have e1:isNil l=true:=by revert hf;cases isNil l <;> simp
     have e2:isNil r=true:=by revert hf;cases isNil r <;> simp
     have t1:=a7g e1;have t2:=a7g e2;refine⟨by omega,by omega,by omega,by omega,?_,fun y _ _ _=>by omega⟩;exact b0p hw (fun x=>by simp only[lev,val,a7A e1,a7A e2];split <;> omega) (by simp only[top,val];omega) (by simp only[bot,val];omega) _
  ·have hp':=a3A.1 hp;simp only[Bool.true_or,if_true];exact fun x _ _ _ _=>by omega
end Lev
def a2d(w:World):Lev.T->Value->List Nat->Prop
 |.nil,p,F=>p=.pointer none/\F=[]
 |.node a l r,p,F=>∃ (b:Nat) (pl pr:Option Addr) (Fl Fr:List Nat),p=.pointer (some ⟨b,0,none⟩)/\w.cell? ⟨b,0,none⟩=some (.int .i64 a)/\w.cell? ⟨b,1,none⟩=some (.int .i64 (Lev.top (.node a l r)))/\w.cell? ⟨b,2,none⟩=some (.int .i64 (Lev.bot (.node a l r)))/\w.cell? ⟨b,3,none⟩=some (.pointer pl)/\w.cell? ⟨b,4,none⟩=some (.pointer pr)/\(∀ o,w.frozen? ⟨b,o,none⟩=false)/\a2d w l (.pointer pl) Fl/\a2d w r (.pointer pr) Fr/\F=b :: (Fl++Fr)/\F.Nodup
theorem a2d.lt{w:World}:∀ {t:Lev.T}{p:Value}{F:List Nat},a2d w t p F->∀ k∈F,k<w.heap.size
 |.nil,p,F,h,k,hk=>by rw[h.2] at hk;cases hk
 |.node a l r,p,F,h,k,hk=>by
  obtain⟨b,pl,pr,Fl,Fr,rfl,c0,c1,c2,c3,c4,fz,hl,hr,rfl,nd⟩:=h;rcases List.mem_cons.1 hk with rfl|hk
  ·exact World.block_lt_of_cell? _ _ c0
  ·rcases List.mem_append.1 hk with hk|hk
   ·exact a2d.lt hl k hk
   ·exact a2d.lt hr k hk
theorem a2d.off{G:List Nat}{w w':World}(h:Off G w w'):∀ {t:Lev.T}{p:Value}{F:List Nat},a2d w t p F->(∀ k∈F,k ∉ G)->a2d w' t p F
 |.nil,p,F,hr,_=>hr
 |.node a l r,p,F,hr,hd=>by
  obtain⟨b,pl,pr,Fl,Fr,rfl,c0,c1,c2,c3,c4,fz,hl,hr,rfl,nd⟩:=hr;have hb:b ∉ G:=hd b (by simp);exact⟨b,pl,pr,Fl,Fr,rfl,h.cell hb c0,h.cell hb c1,h.cell hb c2,h.cell hb c3,h.cell hb c4,fun o=>(h.frozen hb (World.block_lt_of_cell? _ _ c0)).trans (fz o),a2d.off h hl (fun k hk=>hd k (by simp[hk])),a2d.off h hr (fun k hk=>hd k (by simp[hk])),rfl,nd⟩
theorem a2d.same{t:Lev.T}(h:a2d w t p F)(k:Off [] w w'):a2d w' t p F:=h.off k (fun _ _=>by simp)
theorem a2d.nodup{t:Lev.T}(h:a2d w t p F):F.Nodup:=by
 cases t with
 |nil=>rw[h.2];exact List.nodup_nil
 |node a l r=>obtain⟨b,_,_,_,_,_,_,_,_,_,_,_,_,_,_,nd⟩:=h;exact nd
structure a2j(w:World)(b:Nat)(c:Int)(l r:Lev.T)(pl pr:Option Addr)(Fl Fr:List Nat):Prop where
 c0:w.cell? ⟨b,0,none⟩=some (.int .i64 c)
 c1:∃ x,w.cell? ⟨b,1,none⟩=some (.int .i64 x)
 c2:∃ x,w.cell? ⟨b,2,none⟩=some (.int .i64 x)
 c3:w.cell? ⟨b,3,none⟩=some (.pointer pl)
 c4:w.cell? ⟨b,4,none⟩=some (.pointer pr)
 fz:∀ o,w.frozen? ⟨b,o,none⟩=false
 l:a2d w l (.pointer pl) Fl
 r:a2d w r (.pointer pr) Fr
 nd:(b :: (Fl++Fr)).Nodup
def LB:Lev.T->Prop
 |.nil=>True
 |.node a l r=>(-1000000<=a/\a<=1000000)/\(-100000000<=Lev.top (.node a l r)/\Lev.top (.node a l r)<=100000000)/\(-100000000<=Lev.bot (.node a l r)/\Lev.bot (.node a l r)<=100000000)/\LB l/\LB r
theorem LB.top{t:Lev.T}(h:LB t):-100000000<=Lev.top t/\Lev.top t<=100000000:=by
 cases t with
 |nil=>simp[Lev.top]
 |node a l r=>exact h.2.1
theorem LB.bot{t:Lev.T}(h:LB t):-100000000<=Lev.bot t/\Lev.bot t<=100000000:=by
 cases t with
 |nil=>simp[Lev.bot]
 |node a l r=>exact h.2.2.1
theorem LB.val{t:Lev.T}(h:LB t):-1000000<=Lev.val t/\Lev.val t<=1000000:=by
 cases t with
 |nil=>simp[Lev.val]
 |node a l r=>exact h.1
theorem LB.fst{t:Lev.T}(h:LB t):LB (Lev.fst t):=by
 cases t with
 |nil=>trivial
 |node a l r=>exact h.2.2.2.1
theorem LB.snd{t:Lev.T}(h:LB t):LB (Lev.snd t):=by
 cases t with
 |nil=>trivial
 |node a l r=>exact h.2.2.2.2
theorem LB.mk{l r:Lev.T}(h:LB (Lev.mk a l r)):(-1000000<=a/\a<=1000000)/\LB l/\LB r:=by
 have h1:=h.val;have h2:=h.fst;have h3:=h.snd;simp at h1 h2 h3;exact⟨h1,h2,h3⟩
theorem a0N(lo hi a b:Int)(w:World):
  Calls Tryz.prog 257 #[.agg #[.int .i64 lo,.int .i64 hi],.agg #[.int .i64 a,.int .i64 b]] w fun e w'=>e=.returned (.bool (Lev.apart lo hi a b))/\Below w.heap.size w w':=by
 by_cases h1:hi<=a
 ·go_enter Tryz.func257,Tryz.ntmps257
  go_wp2;go_ret;exact⟨a2C (by simp[Lev.apart,h1]),((zr _ _).alloc (zq _) _).alloc (by simp) _⟩
 ·by_cases h2:b<=lo
  all_goals
   go_enter Tryz.func257,Tryz.ntmps257
   go_wp2;go_ret;exact⟨a2C (by simp[Lev.apart];omega),((zr _ _).alloc (zq _) _).alloc (by simp) _⟩
theorem a2v(lo hi a b:Int)(w:World):
  Calls Tryz.prog 258 #[.agg #[.int .i64 lo,.int .i64 hi],.agg #[.int .i64 a,.int .i64 b]] w fun e w'=>e=.returned (.bool (Lev.within lo hi a b))/\Below w.heap.size w w':=by
 by_cases h1:a<=lo
 ·by_cases h2:hi<=b
  all_goals
   go_enter Tryz.func258,Tryz.ntmps258
   go_wp2;go_ret;exact⟨a2C (by simp[Lev.within];omega),((zr _ _).alloc (zq _) _).alloc (by simp) _⟩
 ·go_enter Tryz.func258,Tryz.ntmps258
  go_wp2;go_ret;exact⟨a2C (by simp[Lev.within];omega),((zr _ _).alloc (zq _) _).alloc (by simp) _⟩
theorem c2M(w:World):
  Calls Tryz.prog 214 #[.pointer none] w fun e w'=>e=.returned (.int .i64 0)/\w'=w:=by
 go_enter Tryz.func214,Tryz.ntmps214
 go_wp2;go_ret;exact⟨rfl,rfl⟩
theorem c0r(b:Nat)(x:Int)(w:World)(c1:w.cell? ⟨b,1,none⟩=some (.int .i64 x)):
  Calls Tryz.prog 214 #[.pointer (some ⟨b,0,none⟩)] w fun e w'=>e=.returned (.int .i64 x)/\w'=w:=by
 go_enter Tryz.func214,Tryz.ntmps214
 go_wp2;go_ret;exact⟨rfl,rfl⟩
theorem a6K{t:Lev.T}(w:World)(h:a2d w t (.pointer u) F):
  Calls Tryz.prog 214 #[.pointer u] w fun e w'=>e=.returned (.int .i64 (Lev.top t))/\w'=w:=by
 cases t with
 |nil=>obtain⟨h1,_⟩:=h;cases h1;exact c2M w
 |node a l r=>obtain⟨b,pl,pr,Fl,Fr,hp,c0,c1,_⟩:=h;cases hp;exact c0r b _ w c1
theorem c2V(w:World):
  Calls Tryz.prog 216 #[.pointer none] w fun e w'=>e=.returned (.int .i64 0)/\w'=w:=by
 go_enter Tryz.func216,Tryz.ntmps216
 go_wp2;go_ret;exact⟨rfl,rfl⟩
theorem c0y(b:Nat)(x:Int)(w:World)(c1:w.cell? ⟨b,2,none⟩=some (.int .i64 x)):
  Calls Tryz.prog 216 #[.pointer (some ⟨b,0,none⟩)] w fun e w'=>e=.returned (.int .i64 x)/\w'=w:=by
 go_enter Tryz.func216,Tryz.ntmps216
 go_wp2;go_ret;exact⟨rfl,rfl⟩
theorem a6M{t:Lev.T}(w:World)(h:a2d w t (.pointer u) F):
  Calls Tryz.prog 216 #[.pointer u] w fun e w'=>e=.returned (.int .i64 (Lev.bot t))/\w'=w:=by
 cases t with
 |nil=>obtain⟨h1,_⟩:=h;cases h1;exact c2V w
 |node a l r=>obtain⟨b,pl,pr,Fl,Fr,hp,c0,c1,c2,_⟩:=h;cases hp;exact c0y b _ w c2
theorem b8t(w:World):
  Calls Tryz.prog 260 #[.pointer none] w fun e w'=>e=.returned (.bool true)/\w'=w:=by
 go_enter Tryz.func260,Tryz.ntmps260
 go_wp2;go_ret;exact⟨rfl,rfl⟩
def b5g(pl pr:Option Addr):Bool:=pl.isNone && pr.isNone
theorem a6e(b:Nat)(pl pr:Option Addr)(w:World)(c3:w.cell? ⟨b,3,none⟩=some (.pointer pl))(c4:w.cell? ⟨b,4,none⟩=some (.pointer pr)):
  Calls Tryz.prog 260 #[.pointer (some ⟨b,0,none⟩)] w fun e w'=>e=.returned (.bool (b5g pl pr))/\w'=w:=by
 cases pl with
 |none =>
  cases pr with
  |none =>
   go_enter Tryz.func260,Tryz.ntmps260
   go_wp2;go_ret;exact⟨rfl,rfl⟩
  |some q =>
   go_enter Tryz.func260,Tryz.ntmps260
   go_wp2;go_ret;exact⟨rfl,rfl⟩
 |some q =>
  go_enter Tryz.func260,Tryz.ntmps260
  go_wp2;go_ret;exact⟨rfl,rfl⟩
theorem a2d.isNone{t:Lev.T}(h:a2d w t (.pointer u) F):u.isNone=Lev.isNil t:=by
 cases t with
 |nil=>obtain⟨h1,_⟩:=h;cases h1;rfl
 |node a l r=>obtain⟨b,pl,pr,Fl,Fr,hp,_⟩:=h;cases hp;rfl
theorem a4c(lo hi:Int)(w:World)(h0:0<=lo)(h1:lo<=hi)(h2:hi<=2000000):
  Calls Tryz.prog 259 #[.agg #[.int .i64 lo,.int .i64 hi]] w fun e w'=>e=.returned (.tuple #[.agg #[.int .i64 lo,.int .i64 (Lev.mid lo hi)],.agg #[.int .i64 (Lev.mid lo hi),.int .i64 hi]])/\Below w.heap.size w w':=by
 go_enter Tryz.func259,Tryz.ntmps259
 go_wp2
 go_region
 all_goals
  go_wp2;refine bodyPost_ret (v:=.tuple #[.agg #[.int .i64 lo,.int .i64 (Lev.mid lo hi)],.agg #[.int .i64 (Lev.mid lo hi),.int .i64 hi]]) (by simp[results,Tryz.results259,go_sem,Lev.mid]) rfl ⟨rfl,?_⟩;exact ((((zr _ _).alloc (zq _) _).alloc (by simp) _).alloc (by simp;omega) _).drew
theorem a2j.off{l r:Lev.T}(h:a2j w b c l r pl pr Fl Fr)(k:Off G w w')(hb:b ∉ G)(hl:∀ x∈Fl,x ∉ G)(hr:∀ x∈Fr,x ∉ G):a2j w' b c l r pl pr Fl Fr :=
 ⟨k.cell hb h.c0,h.c1.imp (fun _=>k.cell hb),h.c2.imp (fun _=>k.cell hb),k.cell hb h.c3,k.cell hb h.c4,fun o=>(k.frozen hb (World.block_lt_of_cell? _ _ h.c0)).trans (h.fz o),h.l.off k hl,h.r.off k hr,h.nd⟩
theorem a2j.drew{l r:Lev.T}(h:a2j w b c l r pl pr Fl Fr):a2j w.drew b c l r pl pr Fl Fr :=
 h.off (G:=[]) (Off.refl _ _).drew (by simp) (by simp) (by simp)
theorem a2j.out{l r:Lev.T}(h:a2j w b c l r pl pr Fl Fr):(∀ x∈Fl,x ∉ [b])/\(∀ x∈Fr,x ∉ [b]):=by
 have nd:=h.nd;rw[List.nodup_cons] at nd;refine⟨fun x hx=>?_,fun x hx=>?_⟩ <;> (simp;rintro rfl;exact nd.1 (by simp[hx]))
theorem a2j.set1{l r:Lev.T}(h:a2j w b c l r pl pr Fl Fr)(x:Int):a2j (w.setCell ⟨b,1,none⟩ (.int .i64 x)) b c l r pl pr Fl Fr:=by
 obtain⟨x1,h1⟩:=h.c1;exact⟨(zS _ _ _ _ (by simp)).trans h.c0,⟨x,World.cell?_setCell_same _ _ _ h1⟩,h.c2.imp (fun _ e=>(zS _ _ _ _ (by simp)).trans e),(zS _ _ _ _ (by simp)).trans h.c3,(zS _ _ _ _ (by simp)).trans h.c4,fun o=>(zF ..).trans (h.fz o),h.l.off (Off.set0 ..) h.out.1,h.r.off (Off.set0 ..) h.out.2,h.nd⟩
theorem a2j.set2{l r:Lev.T}(h:a2j w b c l r pl pr Fl Fr)(x:Int):a2j (w.setCell ⟨b,2,none⟩ (.int .i64 x)) b c l r pl pr Fl Fr:=by
 obtain⟨x1,h1⟩:=h.c2;exact⟨(zS _ _ _ _ (by simp)).trans h.c0,h.c1.imp (fun _ e=>(zS _ _ _ _ (by simp)).trans e),⟨x,World.cell?_setCell_same _ _ _ h1⟩,(zS _ _ _ _ (by simp)).trans h.c3,(zS _ _ _ _ (by simp)).trans h.c4,fun o=>(zF ..).trans (h.fz o),h.l.off (Off.set0 ..) h.out.1,h.r.off (Off.set0 ..) h.out.2,h.nd⟩
theorem a2j.done{l r:Lev.T}(h:a2j w b c l r pl pr Fl Fr)(h1:w.cell? ⟨b,1,none⟩=some (.int .i64 (c+max (Lev.top l) (Lev.top r)))):
  a2d (w.setCell ⟨b,2,none⟩ (.int .i64 (c+min (Lev.bot l) (Lev.bot r)))) (.node c l r) (.pointer (some ⟨b,0,none⟩)) (b :: (Fl++Fr)):=by
 have k:=h.set2 (c+min (Lev.bot l) (Lev.bot r));obtain⟨x2,h2⟩:=h.c2;exact⟨b,pl,pr,Fl,Fr,rfl,k.c0,(zS _ _ _ _ (by simp)).trans h1,World.cell?_setCell_same _ _ _ h2,k.c3,k.c4,k.fz,k.l,k.r,rfl,h.nd⟩
theorem b4E(w:World)(b:Nat)(l r:Lev.T)(pl pr:Option Addr)(Fl Fr:List Nat)(h:a2j w b 0 l r pl pr Fl Fr)(hl:Lev.isNil l=true)(hr:Lev.isNil r=true):
  Calls Tryz.prog 281 #[.pointer (some ⟨b,0,none⟩)] w fun e w'=>e=.returned (.pointer none)/\w'=w:=by
 have c0:=h.c0;have e1:b5g pl pr=true:=by rw[b5g,h.l.isNone,h.r.isNone,hl,hr];rfl
 go_enter Tryz.func281,Tryz.ntmps281
 go_wp2_with (go_at_call 260;refine (a6e _ pl pr _ h.c3 h.c4).mono ?_;rintro e w' ⟨rfl,rfl⟩)
 go_ret;exact⟨rfl,rfl⟩
theorem b3u{l r:Lev.T}(h:a2j w b c l r pl pr Fl Fr):
  w.cell? ⟨b,0,none⟩=some (.int .i64 c)/\w.cell? ⟨b,3,none⟩=some (.pointer pl)/\w.cell? ⟨b,4,none⟩=some (.pointer pr)/\a2j w b c l r pl pr Fl Fr:=⟨h.c0,h.c3,h.c4,h⟩
theorem b2M(w:World)(b:Nat)(c:Int)(l r:Lev.T)(pl pr:Option Addr)(Fl Fr:List Nat)(h:a2j w b c l r pl pr Fl Fr)(hn:¬ (c=0/\Lev.isNil l=true/\Lev.isNil r=true))
  (hc:-1000000<=c/\c<=1000000) (hl:LB l) (hr:LB r):
  Calls Tryz.prog 281 #[.pointer (some ⟨b,0,none⟩)] w fun e w'=>e=.returned (.pointer (some ⟨b,0,none⟩))/\a2d w' (.node c l r) (.pointer (some ⟨b,0,none⟩)) (b :: (Fl++Fr))/\Off [b] w w':=by
 have c0:=h.c0;obtain⟨hc1,hc2⟩:=hc;have t1:=hl.top;have t2:=hr.top;have t3:=hl.bot;have t4:=hr.bot
 have e1:c=0->b5g pl pr=false:=by
  rw[b5g,h.l.isNone,h.r.isNone]
  cases hx:Lev.isNil l <;> cases hy:Lev.isNil r <;> simp_all
 have f1:=h.fz 1;have f2:=h.fz 2;obtain⟨x1,c1⟩:=h.c1;obtain⟨x2,c2⟩:=h.c2
 have e3:IntKind.i64.wrap (c+if Lev.top l<Lev.top r then Lev.top r else Lev.top l)=c+max (Lev.top l) (Lev.top r):=by
  rw[c0q];exact a0i (by omega) (by omega)
 have e4:IntKind.i64.wrap (c+if Lev.bot r<Lev.bot l then Lev.bot r else Lev.bot l)=c+min (Lev.bot l) (Lev.bot r):=by
  rw[c6g];exact a0i (by omega) (by omega)
 have E3:=a0b e3;have E4:=a0b e4;have hw1:a2j ((w.setCell ⟨b,1,none⟩ (.int .i64 (c+max (Lev.top l) (Lev.top r)))).drew) b c l r pl pr Fl Fr:=(h.set1 _).drew;have hw2:((w.setCell ⟨b,1,none⟩ (.int .i64 (c+max (Lev.top l) (Lev.top r)))).drew).cell? ⟨b,1,none⟩=some (.int .i64 (c+max (Lev.top l) (Lev.top r))):=zm _ _ _ c1;have hw3:Off [b] w ((w.setCell ⟨b,1,none⟩ (.int .i64 (c+max (Lev.top l) (Lev.top r)))).drew):=(Off.set0 b w _ _).drew;have HW:=a0b (And.intro hw1 (And.intro hw2 hw3));clear e3 e4 hw1 hw2 hw3
 by_cases hz:c=0
 ·have e2:=e1 hz;have hz':(c==0)=true:=by simp[hz]
  clear hn e1 hz
  go_enter Tryz.func281,Tryz.ntmps281
  go_wp2_with (go_at_call 260;refine (a6e _ pl pr _ h.c3 h.c4).mono ?_;rintro e w' ⟨rfl,rfl⟩)
  go_region_held3 (fun w'=>w'.cell? ⟨b,0,none⟩=some (.int .i64 c)/\w'.cell? ⟨b,3,none⟩=some (.pointer pl)/\w'.cell? ⟨b,4,none⟩=some (.pointer pr)/\a2j w' b c l r pl pr Fl Fr)
   (first
    |exact b3u (a2j.drew h)
    |exact b3u (a2j.drew (a2j.set1 h _)))
   (first
    |(go_at_call_of 214 (Value.pointer pl);go_split_ands;refine (a6K _ (a2j.l (by assumption))).mono ?_;rintro e w' ⟨rfl,rfl⟩)
    |(go_at_call_of 214 (Value.pointer pr);go_split_ands;refine (a6K _ (a2j.r (by assumption))).mono ?_;rintro e w' ⟨rfl,rfl⟩))
  rw[E3.out,a7z];obtain⟨hX,cX,oX⟩:=HW.out;clear HW;generalize (World.setCell _ ⟨b,1,none⟩ (.int .i64 (c+max (Lev.top l) (Lev.top r)))).drew=X at hX cX oX ⊢;have f2:=hX.fz 2;obtain⟨x2,c2⟩:=hX.c2
  go_wp2_with fail
  go_region_held3 (fun w'=>w'.cell? ⟨b,0,none⟩=some (.int .i64 c)/\w'.cell? ⟨b,3,none⟩=some (.pointer pl)/\w'.cell? ⟨b,4,none⟩=some (.pointer pr)/\a2j w' b c l r pl pr Fl Fr)
   (first
    |exact b3u (a2j.drew hX)
    |exact b3u (a2j.drew (a2j.set2 hX _)))
   (first
    |(go_at_call_of 216 (Value.pointer pl);go_split_ands;refine (a6M _ (a2j.l (by assumption))).mono ?_;rintro e w' ⟨rfl,rfl⟩)
    |(go_at_call_of 216 (Value.pointer pr);go_split_ands;refine (a6M _ (a2j.r (by assumption))).mono ?_;rintro e w' ⟨rfl,rfl⟩))
  rw[E4.out,c0o];have hY:=hX.done cX;have oY:Off [b] _ (World.setCell X ⟨b,2,none⟩ (.int .i64 (c+min (Lev.bot l) (Lev.bot r)))).drew:=(oX.setCell (.inl (by simp)) _ _).drew;have hZ:=a0b (And.intro (hY.same (Off.refl _ _).drew) oY);clear hY oY
  go_wp2_with fail
  go_ret;exact⟨rfl,hZ.out.1,hZ.out.2⟩
 ·have hz':(c==0)=false:=by simp[hz]
  clear hn e1 hz
  go_enter Tryz.func281,Tryz.ntmps281
  go_wp2_with fail
  go_region_held3 (fun w'=>w'.cell? ⟨b,0,none⟩=some (.int .i64 c)/\w'.cell? ⟨b,3,none⟩=some (.pointer pl)/\w'.cell? ⟨b,4,none⟩=some (.pointer pr)/\a2j w' b c l r pl pr Fl Fr)
   (first
    |exact b3u (a2j.drew h)
    |exact b3u (a2j.drew (a2j.set1 h _)))
   (first
    |(go_at_call_of 214 (Value.pointer pl);go_split_ands;refine (a6K _ (a2j.l (by assumption))).mono ?_;rintro e w' ⟨rfl,rfl⟩)
    |(go_at_call_of 214 (Value.pointer pr);go_split_ands;refine (a6K _ (a2j.r (by assumption))).mono ?_;rintro e w' ⟨rfl,rfl⟩))
  rw[E3.out,a7z];obtain⟨hX,cX,oX⟩:=HW.out;clear HW;generalize (World.setCell _ ⟨b,1,none⟩ (.int .i64 (c+max (Lev.top l) (Lev.top r)))).drew=X at hX cX oX ⊢;have f2:=hX.fz 2;obtain⟨x2,c2⟩:=hX.c2
  go_wp2_with fail
  go_region_held3 (fun w'=>w'.cell? ⟨b,0,none⟩=some (.int .i64 c)/\w'.cell? ⟨b,3,none⟩=some (.pointer pl)/\w'.cell? ⟨b,4,none⟩=some (.pointer pr)/\a2j w' b c l r pl pr Fl Fr)
   (first
    |exact b3u (a2j.drew hX)
    |exact b3u (a2j.drew (a2j.set2 hX _)))
   (first
    |(go_at_call_of 216 (Value.pointer pl);go_split_ands;refine (a6M _ (a2j.l (by assumption))).mono ?_;rintro e w' ⟨rfl,rfl⟩)
    |(go_at_call_of 216 (Value.pointer pr);go_split_ands;refine (a6M _ (a2j.r (by assumption))).mono ?_;rintro e w' ⟨rfl,rfl⟩))
  rw[E4.out,c0o];have hY:=hX.done cX;have oY:Off [b] _ (World.setCell X ⟨b,2,none⟩ (.int .i64 (c+min (Lev.bot l) (Lev.bot r)))).drew:=(oX.setCell (.inl (by simp)) _ _).drew;have hZ:=a0b (And.intro (hY.same (Off.refl _ _).drew) oY);clear hY oY
  go_wp2_with fail
  go_ret;exact⟨rfl,hZ.out.1,hZ.out.2⟩
structure c7i(w w1:World)(lo hi a b:Int):Prop where
 q0:w1.cell? ⟨w.heap.size,0,none⟩=some (.int .i64 lo)
 q1:w1.cell? ⟨w.heap.size,1,none⟩=some (.int .i64 hi)
 q2:w1.cell? ⟨w.heap.size+1,0,none⟩=some (.int .i64 a)
 q3:w1.cell? ⟨w.heap.size+1,1,none⟩=some (.int .i64 b)
 sz:w.heap.size+1<w1.heap.size
 bw:Below w.heap.size w w1
theorem boxes{b:Int}(h:Below ((w.alloc (.cells #[.int .i64 lo,.int .i64 hi] 60)).alloc (.cells #[.int .i64 a,.int .i64 b] 60)).heap.size ((w.alloc (.cells #[.int .i64 lo,.int .i64 hi] 60)).alloc (.cells #[.int .i64 a,.int .i64 b] 60)) w1):c7i w w1 lo hi a b:=by
 have e:((w.alloc (.cells #[.int .i64 lo,.int .i64 hi] 60)).alloc (.cells #[.int .i64 a,.int .i64 b] 60)).heap.size=w.heap.size+2:=by simp
 refine⟨(h.cell (p:=⟨w.heap.size,0,none⟩) ?_).trans ?_,(h.cell (p:=⟨w.heap.size,1,none⟩) ?_).trans ?_,(h.cell (p:=⟨w.heap.size+1,0,none⟩) ?_).trans ?_,(h.cell (p:=⟨w.heap.size+1,1,none⟩) ?_).trans ?_,?_,?_⟩
 ·rw[e];show w.heap.size<_;omega
 ·simp
 ·rw[e];show w.heap.size<_;omega
 ·simp
 ·rw[e];show w.heap.size+1<_;omega
 ·simp
 ·rw[e];show w.heap.size+1<_;omega
 ·simp
 ·have:=h.size;omega
 ·exact (((zr _ _).alloc (zq _) _).alloc (by simp) _).trans (h.mono (by omega))
def b4f(w:World)(F:List Nat)(t':Lev.T)(e:Ending)(w':World):Prop :=
 ∃ (u:Option Addr) (F':List Nat),e=.returned (.pointer u)/\a2d w' t' (.pointer u) F'/\(∀ k∈F',k∈F\/w.heap.size<=k)/\Off F w w'
theorem b3X(t:Lev.T)(u:Option Addr)(F:List Nat)(lo hi a b x:Int)(n:Nat)(w:World)(h:a2d w t (.pointer u) F)(hp:Lev.apart lo hi a b=true):
  Calls Tryz.prog 261 #[.pointer u,.agg #[.int .i64 lo,.int .i64 hi],.agg #[.int .i64 a,.int .i64 b],.int .i64 x] w (b4f w F (Lev.a6q n t lo hi a b x)):=by
 have e:Lev.a6q n t lo hi a b x=t:=by unfold Lev.a6q;rw[if_pos hp]
 rw[e];clear e
 go_enter Tryz.func261,Tryz.ntmps261
 go_wp2_with fail
 refine (a0N _ _ _ _ _).mono ?_;rintro e w1 ⟨rfl,hb⟩;rw[hp];have hB:Below w.heap.size w w1:=(((zr _ _).alloc (zq _) _).alloc (by simp) _).trans (hb.mono (by simp;omega));have HB:=a0b hB;clear hB hb
 go_wp2_with fail
 go_ret;exact⟨u,F,rfl,h.same (Off.of_below HB.out),fun k hk=>.inl hk,Off.of_below HB.out⟩
theorem b6S(w:World)(c:Int):a2j (w.alloc (.cells #[.int .i64 c,.int .i64 0,.int .i64 0,.pointer none,.pointer none] 338)) w.heap.size c .nil .nil none none [] [] :=
 ⟨by simp,⟨0,by simp⟩,⟨0,by simp⟩,by simp,by simp,fun o=>World.frozen?_alloc_new w _ _ o,⟨rfl,rfl⟩,⟨rfl,rfl⟩,by simp⟩
theorem a7G{l r:Lev.T}(h:a2d w (.node c l r) (.pointer u) F):∃ (b:Nat)(pl pr:Option Addr)(Fl Fr:List Nat),u=some ⟨b,0,none⟩/\F=b :: (Fl++Fr)/\a2j w b c l r pl pr Fl Fr:=by
 obtain⟨b,pl,pr,Fl,Fr,hp,c0,c1,c2,c3,c4,fz,hl,hr,hF,nd⟩:=h
 cases hp
 exact⟨b,pl,pr,Fl,Fr,rfl,hF,c0,⟨_,c1⟩,⟨_,c2⟩,c3,c4,fz,hl,hr,hF ▸ nd⟩
theorem a4k(w:World)(b:Nat)(c:Int)(l r:Lev.T)(pl pr:Option Addr)(Fl Fr:List Nat)(h:a2j w b c l r pl pr Fl Fr)(hb:LB (Lev.mk c l r)):
  Calls Tryz.prog 281 #[.pointer (some ⟨b,0,none⟩)] w fun e w'=>∃ (u:Option Addr) (F':List Nat),e=.returned (.pointer u)/\a2d w' (Lev.mk c l r) (.pointer u) F'/\(∀ k∈F',k∈b :: (Fl++Fr))/\Off [b] w w':=by
 obtain⟨b1,b2,b3⟩:=hb.mk
 by_cases hn:c=0/\Lev.isNil l=true/\Lev.isNil r=true
 ·have e:Lev.mk c l r=.nil:=by unfold Lev.mk;rw[if_pos hn]
  rw[e];obtain⟨rfl,n1,n2⟩:=hn;refine (b4E w b l r pl pr Fl Fr h n1 n2).mono ?_;rintro e w' ⟨rfl,rfl⟩;exact⟨none,[],rfl,⟨rfl,rfl⟩,by simp,Off.refl _ _⟩
 ·have e:Lev.mk c l r=.node c l r:=by unfold Lev.mk;rw[if_neg hn]
  rw[e];refine (b2M w b c l r pl pr Fl Fr h hn b1 b2 b3).mono ?_;rintro e w' ⟨rfl,k1,k2⟩;exact⟨_,_,rfl,k1,fun _ hk=>hk,k2⟩
theorem a2j.set0{l r:Lev.T}(h:a2j w b c l r pl pr Fl Fr)(x:Int):a2j (w.setCell ⟨b,0,none⟩ (.int .i64 x)) b x l r pl pr Fl Fr :=
 ⟨zm _ _ _ h.c0,h.c1.imp (fun _ e=>(zS _ _ _ _ (by simp)).trans e),h.c2.imp (fun _ e=>(zS _ _ _ _ (by simp)).trans e),(zS _ _ _ _ (by simp)).trans h.c3,(zS _ _ _ _ (by simp)).trans h.c4,fun o=>(zF ..).trans (h.fz o),h.l.off (Off.set0 ..) h.out.1,h.r.off (Off.set0 ..) h.out.2,h.nd⟩
theorem a8B{t':Lev.T}(h1:Off F w w1)(hG:∀ k∈G,k∈F\/w.heap.size<=k)(hb:b∈G)(h2:a2d w2 t' (.pointer u) F')(h3:∀ k∈F',k∈G)(h4:Off [b] w1 w2):b4f w F t' (.returned (.pointer u)) w2 :=
 ⟨u,F',rfl,h2,fun k hk=>hG k (h3 k hk),h1.trans' h4 (fun x hx=>by simp at hx;subst hx;exact hG x hb)⟩
theorem b1i(t:Lev.T)(u:Option Addr)(F:List Nat)(lo hi a b x:Int)(n:Nat)(w:World)(h:a2d w t (.pointer u) F)(hp:Lev.apart lo hi a b=false)(hw:Lev.within lo hi a b=true)
  (hx1:-1000000<=x) (hx2:x<=1000000) (hB1:LB t) (hB2:LB (Lev.a6q n t lo hi a b x)):
  Calls Tryz.prog 261 #[.pointer u,.agg #[.int .i64 lo,.int .i64 hi],.agg #[.int .i64 a,.int .i64 b],.int .i64 x] w (b4f w F (Lev.a6q n t lo hi a b x)):=by
 have e:Lev.a6q n t lo hi a b x=Lev.mk (Lev.val t+x) (Lev.fst t) (Lev.snd t):=by unfold Lev.a6q;rw[if_neg (by simp[hp]),if_pos hw]
 rw[e] at hB2 ⊢;have hv:=hB1.val;clear e hB1
 cases t with
 |nil =>
  obtain⟨hu,rfl⟩:=h
  cases hu
  simp only[Lev.val,Lev.fst,Lev.snd,Int.zero_add] at hB2 hv ⊢
  go_enter Tryz.func261,Tryz.ntmps261
  go_wp2_with fail
  refine (a0N _ _ _ _ _).mono ?_;rintro e w1 ⟨rfl,hb⟩;rw[hp];have bx:=boxes hb;have ⟨q0,q1,q2,q3,hs,hB⟩:=bx;have HB:=a0b hB;have hs0:w.heap.size<w1.heap.size:=by omega
  clear hB hb bx
  go_wp2_with fail
  refine (a2v _ _ _ _ _).mono ?_;rintro e w2 ⟨rfl,hb⟩;rw[hw];have hH:=(b6S w1 0).off (G:=[]) (Off.of_below hb) (by simp) (by simp) (by simp);have hO:Off [] w w2:=(((Off.of_below HB.out).alloc _).trans (Off.of_below hb));have hz:w.heap.size<=w1.heap.size:=by omega
  have hG:∀ k∈w1.heap.size :: ([]++[]),k∈([]:List Nat)\/w.heap.size<=k:=by simp;omega
  have c0:=hH.c0;have f0:=hH.fz 0;clear hb q0 q1 q2 q3 hs hs0
  go_wp2_with fail
  refine (a4k _ _ _ _ _ _ _ _ _ (hH.set0 _) hB2).mono ?_;rintro e w3 ⟨u3,F3,rfl,k1,k2,k3⟩;have HK:=a0b (a8B (hO.setCell (hG _ (by simp)) _ _) hG (by simp) k1 k2 k3);clear k1 k2 k3 hH hO hG c0 f0
  go_wp2_with fail
  go_ret;exact HK.out
 |node c l r =>
  obtain⟨bk,pl,pr,Fl,Fr,rfl,rfl,hh⟩:=a7G h;simp only[Lev.val,Lev.fst,Lev.snd] at hB2 hv ⊢
  go_enter Tryz.func261,Tryz.ntmps261
  go_wp2_with fail
  refine (a0N _ _ _ _ _).mono ?_;rintro e w1 ⟨rfl,hb⟩;rw[hp];have bx:=boxes hb;have ⟨q0,q1,q2,q3,hs,hB⟩:=bx;have HB:=a0b hB;have hs0:w.heap.size<w1.heap.size:=by omega
  clear hB hb bx
  go_wp2_with fail
  refine (a2v _ _ _ _ _).mono ?_;rintro e w2 ⟨rfl,hb⟩;rw[hw];have hH:=hh.off (G:=[]) ((Off.of_below HB.out).trans (Off.of_below hb)) (by simp) (by simp) (by simp);have hO:Off (bk :: (Fl++Fr)) w w2:=(Off.of_below HB.out).trans (Off.of_below hb);have hG:∀ k∈bk :: (Fl++Fr),k∈bk :: (Fl++Fr)\/w.heap.size<=k:=fun _ hk=>.inl hk
  have c0:=hH.c0;have f0:=hH.fz 0;clear hb q0 q1 q2 q3 hs hs0
  go_wp2_with fail
  refine (a4k _ _ _ _ _ _ _ _ _ (hH.set0 _) hB2).mono ?_;rintro e w3 ⟨u3,F3,rfl,k1,k2,k3⟩;have HK:=a0b (a8B (hO.setCell (hG _ (by simp)) _ _) hG (by simp) k1 k2 k3);clear k1 k2 k3 hH hO hG c0 f0
  go_wp2_with fail
  go_ret;exact HK.out
theorem a2j.lt{l r:Lev.T}(h:a2j w b c l r pl pr Fl Fr):∀ k∈b :: (Fl++Fr),k<w.heap.size:=by
 intro k hk;rcases List.mem_cons.1 hk with rfl|hk
 ·exact World.block_lt_of_cell? _ _ h.c0
 ·rcases List.mem_append.1 hk with hk|hk
  ·exact h.l.lt k hk
  ·exact h.r.lt k hk
theorem a2j.notl{l r:Lev.T}(h:a2j w b c l r pl pr Fl Fr):b ∉ Fl/\b ∉ Fr/\(∀ x∈Fr,x ∉ Fl)/\Fl.Nodup/\Fr.Nodup:=by
 have nd:=h.nd;rw[List.nodup_cons,List.nodup_append] at nd;obtain⟨n1,n2,n3,n4⟩:=nd;exact⟨fun e=>n1 (by simp[e]),fun e=>n1 (by simp[e]),fun x hx hy=>n4 x hy x hx rfl,n2,n3⟩
theorem a2j.setl{l r l':Lev.T}(h:a2j X b c l r pl pr Fl Fr)(k1:a2d w4 l' (.pointer u) F')(k2:∀ k∈F',k∈Fl\/X.heap.size<=k)(k3:Off Fl X w4):
  a2j (w4.setCell ⟨b,3,none⟩ (.pointer u)) b c l' r u pr F' Fr:=by
 obtain⟨n1,n2,n3,n4,n5⟩:=h.notl;have hlt:=h.lt;have hb:b ∉ F':=fun e=>by rcases k2 b e with h1|h1;exact n1 h1;have:=hlt b (by simp);omega
 have hr:∀ x∈Fr,x ∉ F':=fun x hx e=>by rcases k2 x e with h1|h1;exact n3 x hx h1;have:=hlt x (by simp[hx]);omega
 have hO:=Off.set0 b w4 3 (.pointer u);have hr4:=h.r.off k3 n3
 exact⟨(zS _ _ _ _ (by simp)).trans (k3.cell n1 h.c0),h.c1.imp (fun _ e=>(zS _ _ _ _ (by simp)).trans (k3.cell n1 e)),h.c2.imp (fun _ e=>(zS _ _ _ _ (by simp)).trans (k3.cell n1 e)),World.cell?_setCell_same _ _ _ (k3.cell n1 h.c3),(zS _ _ _ _ (by simp)).trans (k3.cell n1 h.c4),
  fun o=>(zF ..).trans ((k3.frozen n1 (hlt b (by simp))).trans (h.fz o)),k1.off hO (fun x hx=>by simp;rintro rfl;exact hb hx),hr4.off hO (fun x hx=>by simp;rintro rfl;exact n2 hx),
  List.nodup_cons.2 ⟨by simp;exact⟨hb,n2⟩,List.nodup_append.2 ⟨k1.nodup,n5,fun x hx y hy e=>hr y hy (e ▸ hx)⟩⟩⟩
theorem a2j.setr{l r r':Lev.T}(h:a2j X b c l r pl pr Fl Fr)(k1:a2d w4 r' (.pointer u) F')(k2:∀ k∈F',k∈Fr\/X.heap.size<=k)(k3:Off Fr X w4):
  a2j (w4.setCell ⟨b,4,none⟩ (.pointer u)) b c l r' pl u Fl F':=by
 obtain⟨n1,n2,n3,n4,n5⟩:=h.notl;have hlt:=h.lt;have hb:b ∉ F':=fun e=>by rcases k2 b e with h1|h1;exact n2 h1;have:=hlt b (by simp);omega
 have hl:∀ x∈Fl,x ∉ F':=fun x hx e=>by rcases k2 x e with h1|h1;exact n3 x h1 hx;have:=hlt x (by simp[hx]);omega
 have hO:=Off.set0 b w4 4 (.pointer u);have hl4:=h.l.off k3 (fun x hx e=>n3 x e hx)
 exact⟨(zS _ _ _ _ (by simp)).trans (k3.cell n2 h.c0),h.c1.imp (fun _ e=>(zS _ _ _ _ (by simp)).trans (k3.cell n2 e)),h.c2.imp (fun _ e=>(zS _ _ _ _ (by simp)).trans (k3.cell n2 e)),(zS _ _ _ _ (by simp)).trans (k3.cell n2 h.c3),World.cell?_setCell_same _ _ _ (k3.cell n2 h.c4),
  fun o=>(zF ..).trans ((k3.frozen n2 (hlt b (by simp))).trans (h.fz o)),hl4.off hO (fun x hx=>by simp;rintro rfl;exact n1 hx),k1.off hO (fun x hx=>by simp;rintro rfl;exact hb hx),
  List.nodup_cons.2 ⟨by simp;exact⟨n1,hb⟩,List.nodup_append.2 ⟨n4,k1.nodup,fun x hx y hy e=>hl x hx (e ▸ hy)⟩⟩⟩
structure a2P(w X:World)(F:List Nat)(bk M:Nat)(c lo hi a b:Int)(l r:Lev.T)(pl pr:Option Addr)(Fl Fr:List Nat):Prop where
 half:a2j X bk c l r pl pr Fl Fr
 off:Off F w X
 own:∀ k∈bk :: (Fl++Fr),k∈F\/w.heap.size<=k
 a0:X.cell? ⟨w.heap.size+1,0,none⟩=some (.int .i64 a)
 a1:X.cell? ⟨w.heap.size+1,1,none⟩=some (.int .i64 b)
 m0:X.cell? ⟨M,0,none⟩=some (.int .i64 lo)
 m1:X.cell? ⟨M,1,none⟩=some (.int .i64 (Lev.mid lo hi))
 n0:X.cell? ⟨M+1,0,none⟩=some (.int .i64 (Lev.mid lo hi))
 n1:X.cell? ⟨M+1,1,none⟩=some (.int .i64 hi)
 out:w.heap.size+1 ∉ bk :: (Fl++Fr)/\M ∉ bk :: (Fl++Fr)/\M+1 ∉ bk :: (Fl++Fr)
def c1J(n:Nat):Prop:=∀ (t:Lev.T)(u:Option Addr)(F:List Nat)(lo hi a b x:Int)(w:World),a2d w t (.pointer u) F->0<=lo->lo<hi->hi<=2000000->hi-lo<=2 ^ n->a<b->-1000000<=x->x<=1000000->LB t->LB (Lev.a6q n t lo hi a b x) ->
  Calls Tryz.prog 261 #[.pointer u,.agg #[.int .i64 lo,.int .i64 hi],.agg #[.int .i64 a,.int .i64 b],.int .i64 x] w (b4f w F (Lev.a6q n t lo hi a b x))
theorem a2P.drew{b:Int}{l r:Lev.T}(h:a2P w X F bk M c lo hi a b l r pl pr Fl Fr):a2P w X.drew F bk M c lo hi a b l r pl pr Fl Fr :=
 ⟨h.half.drew,h.off.drew,h.own,h.a0,h.a1,h.m0,h.m1,h.n0,h.n1,h.out⟩
theorem a2P.setl{b:Int}{l r l':Lev.T}(h:a2P w X F bk M c lo hi a b l r pl pr Fl Fr)(k1:a2d w4 l' (.pointer u) F')(k2:∀ k∈F',k∈Fl\/X.heap.size<=k)(k3:Off Fl X w4):
  a2P w (w4.setCell ⟨bk,3,none⟩ (.pointer u)) F bk M c lo hi a b l' r u pr F' Fr:=by
 obtain⟨o1,o2,o3⟩:=h.out;have z1:=World.block_lt_of_cell? _ _ h.a0;have z2:=World.block_lt_of_cell? _ _ h.m0;have z3:=World.block_lt_of_cell? _ _ h.n0;have hsz:=h.off.size;have k4:Off (bk :: (Fl++Fr)) X (w4.setCell ⟨bk,3,none⟩ (.pointer u)):=(k3.mono (by intro x hx;simp[hx])).setCell (.inl (by simp)) _ _
 have hF':∀ k∈bk :: (F'++Fr),k∈bk :: (Fl++Fr)\/X.heap.size<=k:=by
  intro k hk;rcases List.mem_cons.1 hk with rfl|hk
  ·exact .inl (by simp)
  ·rcases List.mem_append.1 hk with hk|hk
   ·rcases k2 k hk with h1|h1
    ·exact .inl (by simp[h1])
    ·exact .inr h1
   ·exact .inl (by simp[hk])
 have hh:=h.half.setl k1 k2 k3;refine⟨hh,h.off.trans' k4 h.own,fun k hk=>?_,k4.cell o1 h.a0,k4.cell o1 h.a1,k4.cell o2 h.m0,k4.cell o2 h.m1,k4.cell o3 h.n0,k4.cell o3 h.n1,?_,?_,?_⟩
 ·rcases hF' k hk with h1|h1
  ·exact h.own k h1
  ·exact .inr (by omega)
 ·intro e;rcases hF' _ e with h1|h1
  ·exact o1 h1
  ·simp at z1;omega
 ·intro e;rcases hF' _ e with h1|h1
  ·exact o2 h1
  ·simp at z2;omega
 ·intro e;rcases hF' _ e with h1|h1
  ·exact o3 h1
  ·simp at z3;omega
theorem a2P.setr{b:Int}{l r r':Lev.T}(h:a2P w X F bk M c lo hi a b l r pl pr Fl Fr)(k1:a2d w4 r' (.pointer u) F')(k2:∀ k∈F',k∈Fr\/X.heap.size<=k)(k3:Off Fr X w4):
  a2j (w4.setCell ⟨bk,4,none⟩ (.pointer u)) bk c l r' pl u Fl F'/\Off F w (w4.setCell ⟨bk,4,none⟩ (.pointer u))/\∀ k∈bk :: (Fl++F'),k∈F\/w.heap.size<=k:=by
 have hsz:=h.off.size;have k4:Off (bk :: (Fl++Fr)) X (w4.setCell ⟨bk,4,none⟩ (.pointer u)):=(k3.mono (by intro x hx;simp[hx])).setCell (.inl (by simp)) _ _;refine⟨h.half.setr k1 k2 k3,h.off.trans' k4 h.own,fun k hk=>?_⟩;rcases List.mem_cons.1 hk with rfl|hk
 ·exact h.own k (by simp)
 ·rcases List.mem_append.1 hk with hk|hk
  ·exact h.own k (by simp[hk])
  ·rcases k2 k hk with h1|h1
   ·exact h.own k (by simp[h1])
   ·exact .inr (by omega)
theorem a9I{w3:World}{b:Int}{l r:Lev.T}(hH:a2j w2 bk c l r pl pr Fl Fr)(hO:Off F w w2)(hG:∀ k∈bk :: (Fl++Fr),k∈F\/w.heap.size<=k)(q2:w2.cell? ⟨w.heap.size+1,0,none⟩=some (.int .i64 a))(q3:w2.cell? ⟨w.heap.size+1,1,none⟩=some (.int .i64 b))(hne:w.heap.size+1 ∉ bk :: (Fl++Fr))(hb:Below w2.heap.size w2 w3):
  a2P w ((w3.alloc (.cells #[.int .i64 lo,.int .i64 (Lev.mid lo hi)] 60)).alloc (.cells #[.int .i64 (Lev.mid lo hi),.int .i64 hi] 60)) F bk w3.heap.size c lo hi a b l r pl pr Fl Fr:=by
 have k:Off [] w2 ((w3.alloc (.cells #[.int .i64 lo,.int .i64 (Lev.mid lo hi)] 60)).alloc (.cells #[.int .i64 (Lev.mid lo hi),.int .i64 hi] 60)):=((Off.of_below hb).alloc _).alloc _;have hlt:=hH.lt;have hsz:=hb.size;refine⟨hH.off k (by simp) (by simp) (by simp),hO.trans' k (by simp),hG,k.cell (by simp) q2,k.cell (by simp) q3,by simp,by simp,by simp,by simp,hne,fun e=>?_,fun e=>?_⟩
 ·have:=hlt _ e;omega
 ·have:=hlt _ e;omega
theorem c1A(n:Nat)(ih:Hid (c1J n))(t:Lev.T)(u:Option Addr)(F:List Nat)(lo hi a b x:Int)(w:World)(h:a2d w t (.pointer u) F)(hp:Lev.apart lo hi a b=false)(hw:Lev.within lo hi a b=false)
  (h0:0<=lo) (h1:lo<hi) (h2:hi<=2000000) (h3:hi-lo<=2 ^ (n+1)) (h4:a<b)
  (hx1:-1000000<=x) (hx2:x<=1000000) (hB1:LB t) (hB2:LB (Lev.a6q (n+1) t lo hi a b x)):
  Calls Tryz.prog 261 #[.pointer u,.agg #[.int .i64 lo,.int .i64 hi],.agg #[.int .i64 a,.int .i64 b],.int .i64 x] w (b4f w F (Lev.a6q (n+1) t lo hi a b x)):=by
 have e:Lev.a6q (n+1) t lo hi a b x=Lev.mk (Lev.val t) (Lev.a6q n (Lev.fst t) lo (Lev.mid lo hi) a b x) (Lev.a6q n (Lev.snd t) (Lev.mid lo hi) hi a b x):=by rw[Lev.a6q];rw[if_neg (by simp[hp]),if_neg (by simp[hw])]
 rw[e] at hB2 ⊢;obtain⟨_,hBl,hBr⟩:=hB2.mk;have hl:=hB1.fst;have hr:=hB1.snd;have g1:=Lev.a1r.1 hp;have g2:=Lev.a3W.1 hw;have hm:lo<Lev.mid lo hi/\Lev.mid lo hi<hi:=by unfold Lev.mid;omega
 have hh:=Lev.b1B h3
 have I1:Hid (∀ (w:World) (u:Option Addr) (F:List Nat),a2d w (Lev.fst t) (.pointer u) F->Calls Tryz.prog 261 #[.pointer u,.agg #[.int .i64 lo,.int .i64 (Lev.mid lo hi)],.agg #[.int .i64 a,.int .i64 b],.int .i64 x] w (b4f w F (Lev.a6q n (Lev.fst t) lo (Lev.mid lo hi) a b x))) :=
  fun w u F k=>ih.out _ _ _ _ _ _ _ _ _ k h0 hm.1 (by omega) hh.1 h4 hx1 hx2 hl hBl
 have I2:Hid (∀ (w:World) (u:Option Addr) (F:List Nat),a2d w (Lev.snd t) (.pointer u) F->Calls Tryz.prog 261 #[.pointer u,.agg #[.int .i64 (Lev.mid lo hi),.int .i64 hi],.agg #[.int .i64 a,.int .i64 b],.int .i64 x] w (b4f w F (Lev.a6q n (Lev.snd t) (Lev.mid lo hi) hi a b x))) :=
  fun w u F k=>ih.out _ _ _ _ _ _ _ _ _ k (by omega) hm.2 h2 hh.2 h4 hx1 hx2 hr hBr
 have HB2:=a0b hB2;clear e hBl hBr hl hr g1 g2 hm hh h3 ih hB1 hB2;generalize Lev.a6q n (Lev.fst t) lo (Lev.mid lo hi) a b x=tl at *;generalize Lev.a6q n (Lev.snd t) (Lev.mid lo hi) hi a b x=tr at *
 cases t with
 |nil =>
  obtain⟨hu,rfl⟩:=h
  cases hu
  simp only[Lev.val,Lev.fst,Lev.snd] at HB2 I1 I2 ⊢
  go_enter Tryz.func261,Tryz.ntmps261
  go_wp2_with fail
  refine (a0N _ _ _ _ _).mono ?_;rintro e w1 ⟨rfl,hb⟩;rw[hp];have bx:=boxes hb;have ⟨q0,q1,q2,q3,hs,hB⟩:=bx;have HB:=a0b hB;have hs0:w.heap.size<w1.heap.size:=by omega
  clear hB hb bx
  go_wp2_with fail
  refine (a2v _ _ _ _ _).mono ?_;rintro e w2 ⟨rfl,hb⟩;rw[hw];obtain⟨bk,hbk⟩:∃ bk,bk=w1.heap.size:=⟨_,rfl⟩;have hH:=(b6S w1 0).off (G:=[]) (Off.of_below hb) (by simp) (by simp) (by simp);have hO:Off [] w w2:=(((Off.of_below HB.out).alloc _).trans (Off.of_below hb));have hG:∀ k∈bk :: ([]++[]),k∈([]:List Nat)\/w.heap.size<=k:=by simp;omega
  have hne:w.heap.size+1 ∉ bk :: ([]++[]):=by simp;omega
  have k1:Off [] w1 w2:=((Off.refl [] w1).alloc _).trans (Off.of_below hb);have r0:w2.cell? ⟨w.heap.size,0,none⟩=some (.int .i64 lo):=k1.cell (by simp) q0;have r1:w2.cell? ⟨w.heap.size,1,none⟩=some (.int .i64 hi):=k1.cell (by simp) q1;have r2:w2.cell? ⟨w.heap.size+1,0,none⟩=some (.int .i64 a):=k1.cell (by simp) q2;have r3:w2.cell? ⟨w.heap.size+1,1,none⟩=some (.int .i64 b):=k1.cell (by simp) q3;have hs2:w.heap.size+1<w2.heap.size:=zL hs k1.size;rw[<- hbk] at hH ⊢;clear hb q0 q1 q2 q3 hs hs0 HB k1 hbk
  go_wp2_with fail
  refine (a4c _ _ _ (by omega) (by omega) (by omega)).mono ?_;rintro e w3 ⟨rfl,hb⟩;have hC:a2P w _ _ _ _ 0 lo hi a b _ _ _ _ _ _:=a9I (w3:=w3) hH hO hG r2 r3 hne hb;clear hb hH hO hG r0 r1 r2 r3 hne hs2
  go_upto_region 8 with fail
  generalize (World.alloc _ (.cells #[.int .i64 (Lev.mid lo hi),.int .i64 hi] 60))=X at hC ⊢;generalize w3.heap.size=M at hC ⊢
  go_cut [43] from 35 to 45 (fun _ wx=>∃ (u4:Option Addr) (F4:List Nat),a2P w wx ([]:List Nat) bk M 0 lo hi a b tl .nil u4 none F4 [])
  case first =>
   have b3:=hC.half.c3;have f3:=hC.half.fz 3;have a0:=hC.a0;have a1:=hC.a1;have m0:=hC.m0;have m1:=hC.m1
   go_region_with (first
    |(go_at_call 261;refine (I1.out _ _ _ hC.half.drew.l).mono ?_;rintro e w4 ⟨u4,F4,rfl,k1,k2,k3⟩;have b3':=k3.cell hC.half.notl.1 b3;have f3':=(k3.frozen (o:=3) hC.half.notl.1 (hC.half.lt _ (by simp))).trans f3))
   all_goals
    go_wp2_with fail
    go_meet
    exact⟨_,_,hC.drew.setl k1 k2 k3⟩
  case rest =>
   obtain⟨u4,F4,hD⟩:=hcut;clear hC
   go_upto_region 9 with fail
   go_cut [54] from 46 to 56 (fun _ wx=>∃ (u5:Option Addr) (F5:List Nat),a2j wx bk 0 tl tr u4 u5 F4 F5/\Off ([]:List Nat) w wx/\∀ k∈bk :: (F4++F5),k∈([]:List Nat)\/w.heap.size<=k)
   case first =>
    have b3:=hD.half.c4;have f3:=hD.half.fz 4;have a0:=hD.a0;have a1:=hD.a1;have m0:=hD.n0;have m1:=hD.n1
    go_region_with (first
     |(go_at_call 261;refine (I2.out _ _ _ hD.half.drew.r).mono ?_;rintro e w5 ⟨u5,F5,rfl,k1,k2,k3⟩;have b3':=k3.cell hD.half.notl.2.1 b3;have f3':=(k3.frozen (o:=4) hD.half.notl.2.1 (hD.half.lt _ (by simp))).trans f3))
    all_goals
     go_wp2_with fail
     go_meet
     exact⟨_,_,hD.drew.setr k1 k2 k3⟩
   case rest =>
    obtain⟨u5,F5,k1,k2,k3⟩:=hcut;clear hD I1 I2
    go_wp2_with fail
    refine (a4k _ _ _ _ _ _ _ _ _ k1 HB2.out).mono ?_;rintro e w6 ⟨u6,F6,rfl,n1,n2,n3⟩;have HK:=a0b (a8B k2 k3 (by simp) n1 n2 n3);clear k1 k2 k3 n1 n2 n3
    go_wp2_with fail
    go_ret;exact HK.out
 |node c l r =>
  obtain⟨bk,pl,pr,Fl,Fr,rfl,rfl,hh⟩:=a7G h;simp only[Lev.val,Lev.fst,Lev.snd] at HB2 I1 I2 ⊢
  go_enter Tryz.func261,Tryz.ntmps261
  go_wp2_with fail
  refine (a0N _ _ _ _ _).mono ?_;rintro e w1 ⟨rfl,hb⟩;rw[hp];have bx:=boxes hb;have ⟨q0,q1,q2,q3,hs,hB⟩:=bx;have HB:=a0b hB;have hs0:w.heap.size<w1.heap.size:=by omega
  clear hB hb bx
  go_wp2_with fail
  refine (a2v _ _ _ _ _).mono ?_;rintro e w2 ⟨rfl,hb⟩;rw[hw];have hH:=hh.off (G:=[]) ((Off.of_below HB.out).trans (Off.of_below hb)) (by simp) (by simp) (by simp);have hO:Off (bk :: (Fl++Fr)) w w2:=(Off.of_below HB.out).trans (Off.of_below hb);have hG:∀ k∈bk :: (Fl++Fr),k∈bk :: (Fl++Fr)\/w.heap.size<=k:=fun _ hk=>.inl hk
  have hne:w.heap.size+1 ∉ bk :: (Fl++Fr):=fun e=>by have:=hh.lt _ e;omega
  have r0:w2.cell? ⟨w.heap.size,0,none⟩=some (.int .i64 lo):=a0a hb q0;have r1:w2.cell? ⟨w.heap.size,1,none⟩=some (.int .i64 hi):=a0a hb q1;have r2:w2.cell? ⟨w.heap.size+1,0,none⟩=some (.int .i64 a):=a0a hb q2;have r3:w2.cell? ⟨w.heap.size+1,1,none⟩=some (.int .i64 b):=a0a hb q3;have hs2:w.heap.size+1<w2.heap.size:=zL hs hb.size;clear hb q0 q1 q2 q3 hs hs0 HB h hh
  go_wp2_with fail
  refine (a4c _ _ _ (by omega) (by omega) (by omega)).mono ?_;rintro e w3 ⟨rfl,hb⟩;have hC:a2P w _ _ _ _ c lo hi a b _ _ _ _ _ _:=a9I (w3:=w3) hH hO hG r2 r3 hne hb;clear hb hH hO hG r0 r1 r2 r3 hne hs2
  go_upto_region 8 with fail
  generalize (World.alloc _ (.cells #[.int .i64 (Lev.mid lo hi),.int .i64 hi] 60))=X at hC ⊢;generalize w3.heap.size=M at hC ⊢
  go_cut [43] from 35 to 45 (fun _ wx=>∃ (u4:Option Addr) (F4:List Nat),a2P w wx (bk :: (Fl++Fr)) bk M c lo hi a b tl r u4 pr F4 Fr)
  case first =>
   have b3:=hC.half.c3;have f3:=hC.half.fz 3;have a0:=hC.a0;have a1:=hC.a1;have m0:=hC.m0;have m1:=hC.m1
   go_region_with (first
    |(go_at_call 261;refine (I1.out _ _ _ hC.half.drew.l).mono ?_;rintro e w4 ⟨u4,F4,rfl,k1,k2,k3⟩;have b3':=k3.cell hC.half.notl.1 b3;have f3':=(k3.frozen (o:=3) hC.half.notl.1 (hC.half.lt _ (by simp))).trans f3))
   all_goals
    go_wp2_with fail
    go_meet
    exact⟨_,_,hC.drew.setl k1 k2 k3⟩
  case rest =>
   obtain⟨u4,F4,hD⟩:=hcut;clear hC
   go_upto_region 9 with fail
   go_cut [54] from 46 to 56 (fun _ wx=>∃ (u5:Option Addr) (F5:List Nat),a2j wx bk c tl tr u4 u5 F4 F5/\Off (bk :: (Fl++Fr)) w wx/\∀ k∈bk :: (F4++F5),k∈(bk :: (Fl++Fr))\/w.heap.size<=k)
   case first =>
    have b3:=hD.half.c4;have f3:=hD.half.fz 4;have a0:=hD.a0;have a1:=hD.a1;have m0:=hD.n0;have m1:=hD.n1
    go_region_with (first
     |(go_at_call 261;refine (I2.out _ _ _ hD.half.drew.r).mono ?_;rintro e w5 ⟨u5,F5,rfl,k1,k2,k3⟩;have b3':=k3.cell hD.half.notl.2.1 b3;have f3':=(k3.frozen (o:=4) hD.half.notl.2.1 (hD.half.lt _ (by simp))).trans f3))
    all_goals
     go_wp2_with fail
     go_meet
     exact⟨_,_,hD.drew.setr k1 k2 k3⟩
   case rest =>
    obtain⟨u5,F5,k1,k2,k3⟩:=hcut;clear hD I1 I2
    go_wp2_with fail
    refine (a4k _ _ _ _ _ _ _ _ _ k1 HB2.out).mono ?_;rintro e w6 ⟨u6,F6,rfl,n1,n2,n3⟩;have HK:=a0b (a8B k2 k3 (by simp) n1 n2 n3);clear k1 k2 k3 n1 n2 n3
    go_wp2_with fail
    go_ret;exact HK.out
theorem c5F:∀ n,c1J n:=by
 intro n
 induction n with
 |zero =>
  intro t u F lo hi a b x w h h0 h1 h2 h3 h4 hx1 hx2 hB1 hB2;have h3:hi-lo<=1:=by simpa using h3
  cases hp:Lev.apart lo hi a b
  ·have g:=Lev.a1r.1 hp;exact b1i t u F lo hi a b x 0 w h hp (Lev.a3k.2 (by omega)) hx1 hx2 hB1 hB2
  ·exact b3X t u F lo hi a b x 0 w h hp
 |succ n ih =>
  intro t u F lo hi a b x w h h0 h1 h2 h3 h4 hx1 hx2 hB1 hB2
  cases hp:Lev.apart lo hi a b
  ·cases hw:Lev.within lo hi a b
   ·exact c1A n ih t u F lo hi a b x w h hp hw h0 h1 h2 h3 h4 hx1 hx2 hB1 hB2
   ·exact b1i t u F lo hi a b x _ w h hp hw hx1 hx2 hB1 hB2
  ·exact b3X t u F lo hi a b x _ w h hp
theorem a2d.later{t:Lev.T}(h:a2d w t p F)(k:Below w.heap.size w w'):a2d w' t p F:=h.same (Off.of_below k)
theorem c2I(lo hi a b:Int)(w:World):
  Calls Tryz.prog 211 #[.pointer none,.agg #[.int .i64 lo,.int .i64 hi],.agg #[.int .i64 a,.int .i64 b]] w fun e w'=>e=.returned (.int .i64 0)/\Below w.heap.size w w':=by
 go_enter Tryz.func211,Tryz.ntmps211
 go_wp2_with fail
 go_ret;exact⟨rfl,((zr _ _).alloc (zq _) _).alloc (by simp) _⟩
def MS(X w':World)(bk N M:Nat)(c lo hi a b:Int)(pl pr:Option Addr):Prop :=
 w'.cell? ⟨bk,0,none⟩=some (.int .i64 c)/\w'.cell? ⟨bk,3,none⟩=some (.pointer pl)/\w'.cell? ⟨bk,4,none⟩=some (.pointer pr)/\w'.cell? ⟨N,0,none⟩=some (.int .i64 a)/\w'.cell? ⟨N,1,none⟩=some (.int .i64 b)/\w'.cell? ⟨M,0,none⟩=some (.int .i64 lo)/\w'.cell? ⟨M,1,none⟩=some (.int .i64 (Lev.mid lo hi))/\w'.cell? ⟨M+1,0,none⟩=some (.int .i64 (Lev.mid lo hi))/\w'.cell? ⟨M+1,1,none⟩=some (.int .i64 hi)/\Below X.heap.size X w'
theorem MS.later{b:Int}(h:MS X w' bk N M c lo hi a b pl pr)(k:Below w'.heap.size w' w''):MS X w'' bk N M c lo hi a b pl pr:=by
 obtain⟨h1,h2,h3,h4,h5,h6,h7,h8,h9,h10⟩:=h;exact⟨a0a k h1,a0a k h2,a0a k h3,a0a k h4,a0a k h5,a0a k h6,a0a k h7,a0a k h8,a0a k h9,a0j h10 k (zq _)⟩
theorem b6F{t:Lev.T}{b:Int}(hg:Lev.Good t lo hi)(hB:LB t)(h1:lo<hi)(h2:a<b):0<=Lev.a2g t lo hi a b/\Lev.a2g t lo hi a b<=100000000:=by
 have:=hB.top
 cases hp:Lev.apart lo hi a b
 ·obtain⟨k0,_,x,k1,k2,_,_,k5⟩:=Lev.b6E t lo hi a b h1 h2 hg hp;have:=(Lev.a8H t lo hi h1 hg).1 x k1 k2;omega
 ·rw[Lev.a4p hp];omega
theorem c2J:∀ (t:Lev.T)(u:Option Addr)(F:List Nat)(lo hi a b:Int)(w:World),a2d w t (.pointer u) F->LB t->Lev.Good t lo hi->0<=lo->lo<hi->hi<=2000000->a<b ->
  Calls Tryz.prog 211 #[.pointer u,.agg #[.int .i64 lo,.int .i64 hi],.agg #[.int .i64 a,.int .i64 b]] w fun e w'=>e=.returned (.int .i64 (Lev.a2g t lo hi a b))/\Below w.heap.size w w':=by
 intro t
 induction t with
 |nil =>
  intro u F lo hi a b w h _ _ _ _ _ _;obtain⟨hu,_⟩:=h
  cases hu
  exact c2I lo hi a b w
 |node c l r ihl ihr =>
  intro u F lo hi a b w h hB hg h0 h1 h2 h4;obtain⟨bk,pl,pr,Fl,Fr,rfl,rfl,hh⟩:=a7G h;have IHL:=a0b ihl;have IHR:=a0b ihr;clear ihl ihr
  have c1:w.cell? ⟨bk,1,none⟩=some (.int .i64 (Lev.top (.node c l r))):=by
   obtain⟨b',_,_,_,_,hp,_,c1,_⟩:=h;cases hp;exact c1
  clear h
  cases hp:Lev.apart lo hi a b
  ·cases hw:Lev.within lo hi a b
   ·have em:Lev.a2g (.node c l r) lo hi a b=c+max (Lev.a2g l lo (Lev.mid lo hi) a b) (Lev.a2g r (Lev.mid lo hi) hi a b):=by simp[Lev.a2g,hp,hw]
    have g1:=Lev.a1r.1 hp;have g2:=Lev.a3W.1 hw;have hm:lo<Lev.mid lo hi/\Lev.mid lo hi<hi:=by unfold Lev.mid;omega
    have bl:=b6F (a:=a) (b:=b) hg.2.2.1 hB.2.2.2.1 hm.1 h4;have br:=b6F (a:=a) (b:=b) hg.2.2.2 hB.2.2.2.2 hm.2 h4;have hc:=hB.1
    have I1:Hid (∀ (w:World),a2d w l (.pointer pl) Fl->Calls Tryz.prog 211 #[.pointer pl,.agg #[.int .i64 lo,.int .i64 (Lev.mid lo hi)],.agg #[.int .i64 a,.int .i64 b]] w fun e w'=>e=.returned (.int .i64 (Lev.a2g l lo (Lev.mid lo hi) a b))/\Below w.heap.size w w') :=
     fun w k=>IHL.out _ _ _ _ _ _ _ k hB.2.2.2.1 hg.2.2.1 h0 hm.1 (by omega) h4
    have I2:Hid (∀ (w:World),a2d w r (.pointer pr) Fr->Calls Tryz.prog 211 #[.pointer pr,.agg #[.int .i64 (Lev.mid lo hi),.int .i64 hi],.agg #[.int .i64 a,.int .i64 b]] w fun e w'=>e=.returned (.int .i64 (Lev.a2g r (Lev.mid lo hi) hi a b))/\Below w.heap.size w w') :=
     fun w k=>IHR.out _ _ _ _ _ _ _ k hB.2.2.2.2 hg.2.2.2 (by omega) hm.2 h2 h4
    rw[em];clear em IHL IHR g1 g2 hg hB c1;generalize Lev.a2g l lo (Lev.mid lo hi) a b=ml at *;generalize Lev.a2g r (Lev.mid lo hi) hi a b=mr at *;have c0:=hh.c0;have c3:=hh.c3;have c4:=hh.c4;have RL:=a0b hh.l;have RR:=a0b hh.r;clear hh;have e5:IntKind.i64.wrap (c+if ml<mr then mr else ml)=c+max ml mr:=by rw[c0q];exact a0i (by omega) (by omega)
    have E5:=a0b e5;clear e5
    go_enter Tryz.func211,Tryz.ntmps211
    go_wp2_with fail
    refine (a0N _ _ _ _ _).mono ?_;rintro e w1 ⟨rfl,hb⟩;rw[hp];have ⟨q0,q1,q2,q3,hs,hB⟩:=boxes hb;have d0:=a0a hB c0;have d3:=a0a hB c3;have d4:=a0a hB c4;have HB:=a0b hB;clear hB hb c0 c3 c4
    go_wp2_with fail
    refine (a2v _ _ _ _ _).mono ?_;rintro e w2 ⟨rfl,hb⟩;rw[hw];have HC:=a0b (a0j HB.out hb (zq _));have r0:w2.cell? ⟨w.heap.size,0,none⟩=some (.int .i64 lo):=a0a hb q0;have r1:w2.cell? ⟨w.heap.size,1,none⟩=some (.int .i64 hi):=a0a hb q1;have r2:w2.cell? ⟨w.heap.size+1,0,none⟩=some (.int .i64 a):=a0a hb q2;have r3:w2.cell? ⟨w.heap.size+1,1,none⟩=some (.int .i64 b):=a0a hb q3;have e0:=a0a hb d0;have e3:=a0a hb d3;have e4:=a0a hb d4;clear HB hb q0 q1 q2 q3 hs d0 d3 d4
    go_wp2_with fail
    refine (a4c _ _ _ (by omega) (by omega) (by omega)).mono ?_;rintro e w3 ⟨rfl,hb⟩;have hX:Below w2.heap.size w2 ((w3.alloc (.cells #[.int .i64 lo,.int .i64 (Lev.mid lo hi)] 60)).alloc (.cells #[.int .i64 (Lev.mid lo hi),.int .i64 hi] 60)):=(hb.alloc hb.size _).alloc (by have:=hb.size;simp;omega) _
    have hM:MS ((w3.alloc (.cells #[.int .i64 lo,.int .i64 (Lev.mid lo hi)] 60)).alloc (.cells #[.int .i64 (Lev.mid lo hi),.int .i64 hi] 60)) ((w3.alloc (.cells #[.int .i64 lo,.int .i64 (Lev.mid lo hi)] 60)).alloc (.cells #[.int .i64 (Lev.mid lo hi),.int .i64 hi] 60)) bk (w.heap.size+1) w3.heap.size c lo hi a b pl pr :=
     ⟨a0a hX e0,a0a hX e3,a0a hX e4,a0a hX r2,a0a hX r3,by simp,by simp,by simp,by simp,Below.refl _ _⟩
    have HX:=a0b (And.intro (a0j HC.out hX (zq _)) (And.intro (RL.out.later (a0j HC.out hX (zq _))) (RR.out.later (a0j HC.out hX (zq _)))));clear HC RL RR hX hb r0 r1 r2 r3 e0 e3 e4
    go_upto_region 6 with fail
    generalize (World.alloc _ (.cells #[.int .i64 (Lev.mid lo hi),.int .i64 hi] 60))=X at hM HX ⊢;generalize w3.heap.size=M at hM ⊢
    go_region_held3 (fun w'=>w'.cell? ⟨bk,0,none⟩=some (.int .i64 c)/\w'.cell? ⟨bk,3,none⟩=some (.pointer pl)/\w'.cell? ⟨bk,4,none⟩=some (.pointer pr)/\w'.cell? ⟨w.heap.size+1,0,none⟩=some (.int .i64 a)/\w'.cell? ⟨w.heap.size+1,1,none⟩=some (.int .i64 b)/\w'.cell? ⟨M,0,none⟩=some (.int .i64 lo)/\w'.cell? ⟨M,1,none⟩=some (.int .i64 (Lev.mid lo hi))/\w'.cell? ⟨M+1,0,none⟩=some (.int .i64 (Lev.mid lo hi))/\w'.cell? ⟨M+1,1,none⟩=some (.int .i64 hi)/\Below X.heap.size X w')
     (first
      |exact MS.later hM (a0q _)
      |(go_split_ands;exact MS.later hM (a0j (by assumption) hbf (zq _))))
     (first
      |(go_at_call_of 211 (Value.pointer pl);go_split_ands;refine (I1.out _ (HX.out.2.1.later (by assumption))).mono ?_;rintro e w4 ⟨rfl,hbf⟩)
      |(go_at_call_of 211 (Value.pointer pr);go_split_ands;refine (I2.out _ (HX.out.2.2.later (by assumption))).mono ?_;rintro e w4 ⟨rfl,hbf⟩))
    rw[E5.out,a7z];have HF:=a0b (a0j HX.out.1 (by go_split_ands;assumption:Below X.heap.size X w4) (zq _));clear hM HX I1 I2
    go_wp2_with fail
    go_ret;exact⟨rfl,HF.out⟩
   ·have em:Lev.a2g (.node c l r) lo hi a b=Lev.top (.node c l r):=by simp[Lev.a2g,hp,hw,Lev.top]
    rw[em];clear em;generalize Lev.top (.node c l r)=tp at c1 ⊢
    go_enter Tryz.func211,Tryz.ntmps211
    go_wp2_with fail
    refine (a0N _ _ _ _ _).mono ?_;rintro e w1 ⟨rfl,hb⟩;rw[hp];have ⟨q0,q1,q2,q3,hs,hB⟩:=boxes hb;have d1:=a0a hB c1;have HB:=a0b hB;clear hB hb c1
    go_wp2_with fail
    refine (a2v _ _ _ _ _).mono ?_;rintro e w2 ⟨rfl,hb⟩;rw[hw];have d2:=a0a hb d1;have HC:=a0b (a0j HB.out hb (zq _));clear HB hb q0 q1 q2 q3 hs d1
    go_wp2_with fail
    go_ret;exact⟨rfl,HC.out⟩
  ·have em:Lev.a2g (.node c l r) lo hi a b=0:=Lev.a4p hp;rw[em];clear em
   go_enter Tryz.func211,Tryz.ntmps211
   go_wp2_with fail
   refine (a0N _ _ _ _ _).mono ?_;rintro e w1 ⟨rfl,hb⟩;rw[hp];have HB:=a0b (boxes hb).bw;clear hb
   go_wp2_with fail
   go_ret;exact⟨rfl,HB.out⟩
theorem a2N(w:World):Calls Tryz.prog 212 #[] w fun e w'=>e=.returned (.agg #[.int .i64 0,.int .i64 1048320])/\Below w.heap.size w w':=by
 go_enter Tryz.func212,Tryz.ntmps212
 go_wp2;exact bodyPost_ret (v:=.agg #[.int .i64 0,.int .i64 1048320]) (by simp[results,Tryz.results212,go_sem]) rfl ⟨rfl,(zr _ _).alloc (zq _) _⟩
theorem b7x(t:Lev.T)(tb o:Nat)(u:Option Addr)(F:List Nat)(a b:Int)(w:World)(c:w.cell? ⟨tb,o,none⟩=some (.pointer u))(h:a2d w t (.pointer u) F)(hB:LB t)(hg:Lev.Good t 0 1048320)(h1:a<b):
  Calls Tryz.prog 153 #[.pointer (some ⟨tb,o,none⟩),.agg #[.int .i64 a,.int .i64 b]] w fun e w'=>e=.returned (.int .i64 (Lev.a2g t 0 1048320 a b))/\Below w.heap.size w w':=by
 have HR:=a0b h;clear h
 go_enter Tryz.func153,Tryz.ntmps153
 go_upto_region 1 with fail
 have hX:Below w.heap.size w (w.alloc (.cells #[.int .i64 a,.int .i64 b] 60)):=(zr _ _).alloc (zq _) _;have x0:(w.alloc (.cells #[.int .i64 a,.int .i64 b] 60)).cell? ⟨w.heap.size,0,none⟩=some (.int .i64 a):=by simp
 have x1:(w.alloc (.cells #[.int .i64 a,.int .i64 b] 60)).cell? ⟨w.heap.size,1,none⟩=some (.int .i64 b):=by simp
 have xc:=a0a hX c;have HX:=a0b hX;clear hX;generalize (World.alloc w (.cells #[.int .i64 a,.int .i64 b] 60))=X at x0 x1 xc HX ⊢
 go_region_held3 (fun w'=>w'.cell? ⟨tb,o,none⟩=some (.pointer u)/\w'.cell? ⟨w.heap.size,0,none⟩=some (.int .i64 a)/\w'.cell? ⟨w.heap.size,1,none⟩=some (.int .i64 b)/\Below X.heap.size X w')
  (first
   |exact⟨xc,x0,x1,a0q _⟩
   |(go_split_ands;exact⟨a0a hbf (by assumption),a0a hbf (by assumption),a0a hbf (by assumption),a0j (by assumption) hbf (zq _)⟩))
  (first
   |(go_at_call 212;go_split_ands;refine (a2N _).mono ?_;rintro e w4 ⟨rfl,hbf⟩)
   |(go_at_call 211;go_split_ands;refine (c2J t u F 0 1048320 a b _ (HR.out.later (a0j HX.out (by assumption) (zq _))) hB hg (by omega) (by omega) (by omega) h1).mono ?_;rintro e w4 ⟨rfl,hbf⟩))
 have HF:=a0b (a0j HX.out (by go_split_ands;assumption:Below X.heap.size X w4) (zq _));clear HX HR
 go_wp2_with fail
 go_ret;exact⟨rfl,HF.out⟩
def a6p(w:World)(tb o:Nat)(F:List Nat)(t':Lev.T)(w':World):Prop :=
 ∃ (u':Option Addr) (F':List Nat),w'.cell? ⟨tb,o,none⟩=some (.pointer u')/\a2d w' t' (.pointer u') F'/\(∀ k∈F',k∈F\/w.heap.size<=k)/\Off (tb :: F) w w'/\(∀ o',o'≠o->w'.cell? ⟨tb,o',none⟩=w.cell? ⟨tb,o',none⟩)/\∀ o',w'.frozen? ⟨tb,o',none⟩=w.frozen? ⟨tb,o',none⟩
theorem c5E{w5:World}{tb:Nat}{F5:List Nat}{t':Lev.T}{u5:Option Addr}(h1:Below w.heap.size w w4)(htb:tb<w.heap.size)(hn:tb ∉ F)(k1:a2d w5 t' (.pointer u5) F5)(k2:∀ k∈F5,k∈F\/w4.heap.size<=k)(k3:Off F w4 w5)(z0:w5.cell? ⟨tb,o,none⟩=some v):a6p w tb o F t' (w5.setCell ⟨tb,o,none⟩ (.pointer u5)):=by
 have hs:=h1.size;have o4:Off [] w w4:=Off.of_below h1;have hn5:tb ∉ F5:=fun e=>by rcases k2 tb e with h|h;exact hn h;omega
 have e5:w5.heap[tb]?=w.heap[tb]?:=(k3.block tb (by omega) hn).trans (o4.block tb htb (by simp));refine⟨u5,F5,World.cell?_setCell_same _ _ _ z0,k1.off (Off.set0 ..) (fun x hx=>by simp;rintro rfl;exact hn5 hx),fun k hk=>?_,?_,fun o' ho=>?_,fun o'=>?_⟩
 ·rcases k2 k hk with h|h
  ·exact .inl h
  ·exact .inr (by omega)
 ·exact ((Off.of_below (F:=tb :: F) h1).trans (k3.mono (by intro x hx;simp[hx]))).setCell (.inl (by simp)) _ _
 ·exact (zS _ _ _ _ (by simp)).trans (zo (w:=w) e5)
 ·refine (zF ..).trans ?_;simp only[World.frozen?,e5]
theorem c5J(t:Lev.T)(tb o:Nat)(u:Option Addr)(F:List Nat)(a b x:Int)(w:World)(c:w.cell? ⟨tb,o,none⟩=some (.pointer u))(f:w.frozen? ⟨tb,o,none⟩=false)(hn:tb ∉ F)(h:a2d w t (.pointer u) F)(h1:a<b)(hx1:-1000000<=x)(hx2:x<=1000000)(hB1:LB t)(hB2:LB (Lev.a6q 20 t 0 1048320 a b x)):
  Calls Tryz.prog 219 #[.pointer (some ⟨tb,o,none⟩),.agg #[.int .i64 a,.int .i64 b],.int .i64 x] w fun e w'=>e=.returned (.tuple #[])/\a6p w tb o F (Lev.a6q 20 t 0 1048320 a b x) w':=by
 have AS:Hid (∀ (w':World),a2d w' t (.pointer u) F->Calls Tryz.prog 261 #[.pointer u,.agg #[.int .i64 0,.int .i64 1048320],.agg #[.int .i64 a,.int .i64 b],.int .i64 x] w' (b4f w' F (Lev.a6q 20 t 0 1048320 a b x))) :=
  fun w' k=>c5F 20 t u F 0 1048320 a b x w' k (by omega) (by omega) (by omega) (by decide) h1 hx1 hx2 hB1 hB2
 have HR:=a0b h;have htb:=World.block_lt_of_cell? _ _ c;generalize Lev.a6q 20 t 0 1048320 a b x=t' at *;clear h hB1 hB2
 go_enter Tryz.func219,Tryz.ntmps219
 go_upto_region 1 with fail
 have hX:Below w.heap.size w (w.alloc (.cells #[.int .i64 a,.int .i64 b] 60)):=(zr _ _).alloc (zq _) _;have x0:(w.alloc (.cells #[.int .i64 a,.int .i64 b] 60)).cell? ⟨w.heap.size,0,none⟩=some (.int .i64 a):=by simp
 have x1:(w.alloc (.cells #[.int .i64 a,.int .i64 b] 60)).cell? ⟨w.heap.size,1,none⟩=some (.int .i64 b):=by simp
 have xc:=a0a hX c;have HX:=a0b hX;clear hX;generalize (World.alloc w (.cells #[.int .i64 a,.int .i64 b] 60))=X at x0 x1 xc HX ⊢
 go_region_with (first
  |(go_at_call 212;refine (a2N _).mono ?_;rintro e w4 ⟨rfl,hbf⟩;have y0:=a0a hbf (show World.cell? (World.drew X) _=_ from x0);have y1:=a0a hbf (show World.cell? (World.drew X) _=_ from x1);have yc:=a0a hbf (show World.cell? (World.drew X) _=_ from xc))
  |(go_at_call 261;refine (AS.out _ (HR.out.later (a0j HX.out (a0j (a0q _) hbf (zq _)) (zq _)))).mono ?_;rintro e w5 ⟨u5,F5,rfl,k1,k2,k3⟩;have z0:=k3.cell hn yc;have zf:=(k3.frozen (o:=o) hn (World.block_lt_of_cell? _ _ yc)).trans (((Off.of_below (F:=[]) (a0j HX.out (a0j (a0q _) hbf (zq _)) (zq _))).frozen (by simp) htb).trans f)))
 all_goals
  have HK:=a0b (c5E (a0j HX.out (a0j (a0q _) hbf (zq _)) (zq _)) htb hn k1 k2 k3 z0);clear k1 k2 k3 z0 zf y0 y1 yc x0 x1 xc HX HR AS
  go_wp2_with fail
  go_end0
  exact⟨rfl,HK.out⟩
theorem c7d(t:Lev.T)(u:Option Addr)(F:List Nat)(c level:Int)(k:Nat)(w:World)(h:a2d w t (.pointer u) F)(hB:LB t)(hc:w.cell? ⟨k,0,none⟩=some (.int .i64 level))(h1:-1000000000<=c)(h2:c<=1000000000):
  Calls Tryz.prog 213 #[.pointer u,.int .i64 c,.pointer (some ⟨k,0,none⟩)] w fun e w'=>e=.returned (.bool (Lev.a2X true level t c))/\Below w.heap.size w w':=by
 have hb:=hB.top;clear hB
 go_enter Tryz.func213,Tryz.ntmps213
 go_wp2_with fail
 go_region_held3 (fun w'=>w'.cell? ⟨k,0,none⟩=some (.int .i64 level)/\Below w.heap.size w w')
  (exact⟨hc,a0q _⟩)
  (first|(go_at_call 214;go_split_ands;refine (a6K _ (h.later (by assumption))).mono ?_;rintro e w' ⟨rfl,rfl⟩))
 go_wp2_with fail
 go_ret;exact⟨a2C (by simp only[Lev.a2X];rw[a0i (by omega) (by omega)];simp),a0q _⟩
theorem c7c(t:Lev.T)(u:Option Addr)(F:List Nat)(c level:Int)(k:Nat)(w:World)(h:a2d w t (.pointer u) F)(hB:LB t)(hc:w.cell? ⟨k,0,none⟩=some (.int .i64 level))(h1:-1000000000<=c)(h2:c<=1000000000):
  Calls Tryz.prog 215 #[.pointer u,.int .i64 c,.pointer (some ⟨k,0,none⟩)] w fun e w'=>e=.returned (.bool (Lev.a2X false level t c))/\Below w.heap.size w w':=by
 have hb:=hB.bot;clear hB
 go_enter Tryz.func215,Tryz.ntmps215
 go_wp2_with fail
 go_region_held3 (fun w'=>w'.cell? ⟨k,0,none⟩=some (.int .i64 level)/\Below w.heap.size w w')
  (exact⟨hc,a0q _⟩)
  (first|(go_at_call 216;go_split_ands;refine (a6M _ (h.later (by assumption))).mono ?_;rintro e w' ⟨rfl,rfl⟩))
 go_wp2_with fail
 go_ret;exact⟨a2C (by simp only[Lev.a2X];rw[a0i (by omega) (by omega)];simp),a0q _⟩
def h6p(up:Bool)(fn:Nat):Prop:=(up=true/\fn=213)\/(up=false/\fn=215)
theorem g1w{up:Bool}(hG:h6p up fn)(t:Lev.T)(u:Option Addr)(F:List Nat)(c level:Int)(k:Nat)(w:World)(h:a2d w t (.pointer u) F)(hB:LB t)(hc:w.cell? ⟨k,0,none⟩=some (.int .i64 level))(h1:-1000000000<=c)(h2:c<=1000000000):
  Calls Tryz.prog fn #[.pointer u,.int .i64 c,.pointer (some ⟨k,0,none⟩)] w fun e w'=>e=.returned (.bool (Lev.a2X up level t c))/\Below w.heap.size w w':=by
 rcases hG with ⟨rfl,rfl⟩|⟨rfl,rfl⟩
 ·exact c7d t u F c level k w h hB hc h1 h2
 ·exact c7c t u F c level k w h hB hc h1 h2
theorem a5E{t:Lev.T}(w:World)(h:a2d w t (.pointer u) F):
  Calls Tryz.prog 260 #[.pointer u] w fun e w'=>e=.returned (.bool (Lev.flat t))/\w'=w:=by
 cases t with
 |nil=>obtain⟨h1,_⟩:=h;cases h1;exact b8t w
 |node a l r =>
  obtain⟨b,pl,pr,Fl,Fr,rfl,rfl,hh⟩:=a7G h;have e:Lev.flat (.node a l r)=b5g pl pr:=by rw[b5g,hh.l.isNone,hh.r.isNone];rfl
  rw[e];exact a6e b pl pr w hh.c3 hh.c4
def fmV:Option Int->Value
 |none=>.tuple #[.int .i64 0,.bool false]
 |some x=>.tuple #[.int .i64 x,.bool true]
theorem c4b{x y:Int}(h:x=y):Ending.returned (.tuple #[.int .i64 x,.bool true])=.returned (fmV (some y)):=by rw[h];rfl
theorem a4t(u:Option Addr)(lo hi a b c:Int)(k fn:Nat)(w:World)(hp:Lev.apart lo hi a b=true):
  Calls Tryz.prog 217 #[.pointer u,.agg #[.int .i64 lo,.int .i64 hi],.agg #[.int .i64 a,.int .i64 b],.int .i64 c,.func (.func fn) #[] #[.pointer (some ⟨k,0,none⟩)]] w fun e w'=>e=.returned (fmV none)/\Below w.heap.size w w':=by
 generalize Value.func _ _ _=q
 go_enter Tryz.func217,Tryz.ntmps217
 go_wp2_with fail
 refine (a0N _ _ _ _ _).mono ?_;rintro e w1 ⟨rfl,hb⟩;rw[hp];have HB:=a0b (boxes hb).bw;clear hb
 go_wp2_with fail
 go_ret2;exact⟨rfl,HB.out⟩
theorem e7B{up:Bool}(hG:h6p up fn)(t:Lev.T)(u:Option Addr)(F:List Nat)(lo hi a b c level:Int)(k:Nat)(w:World)(h:a2d w t (.pointer u) F)(hB:LB t)(hc:w.cell? ⟨k,0,none⟩=some (.int .i64 level))(h1:-1000000000<=c)(h2:c<=1000000000)(hp:Lev.apart lo hi a b=false)(hw:Lev.a2X up level t c=false):
  Calls Tryz.prog 217 #[.pointer u,.agg #[.int .i64 lo,.int .i64 hi],.agg #[.int .i64 a,.int .i64 b],.int .i64 c,.func (.func fn) #[] #[.pointer (some ⟨k,0,none⟩)]] w fun e w'=>e=.returned (fmV none)/\Below w.heap.size w w':=by
 have AK:=a0b (fun w' k'=>g1w hG t u F c level k w' (a2d.later h k') hB (a0a k' hc) h1 h2);clear hB;rcases hG with ⟨rfl,rfl⟩|⟨rfl,rfl⟩
 all_goals
  go_enter Tryz.func217,Tryz.ntmps217
  go_wp2_with fail
  refine (a0N _ _ _ _ _).mono ?_;rintro e w1 ⟨rfl,hb⟩;rw[hp];have HB:=a0b (boxes hb).bw;clear hb
  go_wp2_with fail
  refine (AK.out _ HB.out).mono ?_;rintro e w2 ⟨rfl,hb⟩;rw[hw];have HC:=a0b (a0j HB.out hb (zq _));clear HB hb
  go_wp2_with fail
  go_ret2;exact⟨rfl,HC.out⟩
theorem e7D{up:Bool}(hG:h6p up fn)(t:Lev.T)(u:Option Addr)(F:List Nat)(lo hi a b c level:Int)(k:Nat)(w:World)(h:a2d w t (.pointer u) F)(hB:LB t)(hc:w.cell? ⟨k,0,none⟩=some (.int .i64 level))(h1:-1000000000<=c)(h2:c<=1000000000)(hp:Lev.apart lo hi a b=false)(hw:Lev.a2X up level t c=true)(hf:Lev.flat t=true):
  Calls Tryz.prog 217 #[.pointer u,.agg #[.int .i64 lo,.int .i64 hi],.agg #[.int .i64 a,.int .i64 b],.int .i64 c,.func (.func fn) #[] #[.pointer (some ⟨k,0,none⟩)]] w fun e w'=>e=.returned (fmV (some (max lo a)))/\Below w.heap.size w w':=by
 have AK:=a0b (fun w' k'=>g1w hG t u F c level k w' (a2d.later h k') hB (a0a k' hc) h1 h2);clear hB;rcases hG with ⟨rfl,rfl⟩|⟨rfl,rfl⟩
 all_goals
  go_enter Tryz.func217,Tryz.ntmps217
  go_wp2_with fail
  refine (a0N _ _ _ _ _).mono ?_;rintro e w1 ⟨rfl,hb⟩;rw[hp];have ⟨q0,q1,q2,q3,hs,hBw⟩:=boxes hb;have HB:=a0b hBw;clear hb hBw
  go_wp2_with fail
  refine (AK.out _ HB.out).mono ?_;rintro e w2 ⟨rfl,hb⟩;rw[hw];have r0:=a0a hb q0;have r2:=a0a hb q2;have HC:=a0b (a0j HB.out hb (zq _));clear HB hb q0 q1 q2 q3 hs
  go_wp2_with fail
  refine (a5E _ (h.later HC.out)).mono ?_;rintro e w3 ⟨rfl,rfl⟩;rw[hf]
  go_wp2_with fail
  all_goals
   go_ret2;exact⟨c4b (by omega),HC.out⟩
def b1k(up:Bool)(fn:Nat)(t:Lev.T):Prop:=∀ (u:Option Addr)(F:List Nat)(lo hi a b c level:Int)(k:Nat)(w:World),a2d w t (.pointer u) F->LB t->Lev.Good t lo hi->w.cell? ⟨k,0,none⟩=some (.int .i64 level)->0<=c->c+Lev.top t<=100000000->0<=lo->lo<hi->hi<=2000000->a<b ->
  Calls Tryz.prog 217 #[.pointer u,.agg #[.int .i64 lo,.int .i64 hi],.agg #[.int .i64 a,.int .i64 b],.int .i64 c,.func (.func fn) #[] #[.pointer (some ⟨k,0,none⟩)]] w fun e w'=>e=.returned (fmV (Lev.fm up level t lo hi a b c))/\Below w.heap.size w w'
def FS(X w':World)(bk N M:Nat)(v lo hi a b:Int)(pl pr:Option Addr):Prop :=
 w'.cell? ⟨bk,0,none⟩=some (.int .i64 v)/\w'.cell? ⟨bk,3,none⟩=some (.pointer pl)/\w'.cell? ⟨bk,4,none⟩=some (.pointer pr)/\w'.cell? ⟨N,0,none⟩=some (.int .i64 a)/\w'.cell? ⟨N,1,none⟩=some (.int .i64 b)/\w'.cell? ⟨M,0,none⟩=some (.int .i64 lo)/\w'.cell? ⟨M,1,none⟩=some (.int .i64 (Lev.mid lo hi))/\w'.cell? ⟨M+1,0,none⟩=some (.int .i64 (Lev.mid lo hi))/\w'.cell? ⟨M+1,1,none⟩=some (.int .i64 hi)/\Below X.heap.size X w'
theorem FS.later{v b:Int}(h:FS X w' bk N M v lo hi a b pl pr)(k:Below w'.heap.size w' w''):FS X w'' bk N M v lo hi a b pl pr:=by
 obtain⟨h1,h2,h3,h4,h5,h6,h7,h8,h9,h10⟩:=h;exact⟨a0a k h1,a0a k h2,a0a k h3,a0a k h4,a0a k h5,a0a k h6,a0a k h7,a0a k h8,a0a k h9,a0j h10 k (zq _)⟩
theorem c4c{up:Bool}{v b:Int}{l r:Lev.T}(hp:Lev.apart lo hi a b=false)(hw:Lev.a2X up level (.node v l r) c=true)(hf:Lev.flat (.node v l r)=false):Lev.fm up level (.node v l r) lo hi a b c=match Lev.fm up level l lo (Lev.mid lo hi) a b (c+v) with|some x=>some x|none=>Lev.fm up level r (Lev.mid lo hi) hi a b (c+v):=by
 have hf':(Lev.isNil l && Lev.isNil r)=false:=hf;rw[Lev.fm];simp only[hp,hw,hf',Bool.false_or,Bool.not_true,Bool.false_eq_true,if_false] <;> rfl
theorem g9s{up:Bool}(hG:h6p up fn)(v:Int)(l r:Lev.T)(ihl:Hid (b1k up fn l))(ihr:Hid (b1k up fn r))(u:Option Addr)(F:List Nat)(lo hi a b c level:Int)(k:Nat)(w:World)(h:a2d w (.node v l r) (.pointer u) F)(hB:LB (.node v l r))(hg:Lev.Good (.node v l r) lo hi)(hc:w.cell? ⟨k,0,none⟩=some (.int .i64 level))(h1:0<=c)(h2:c+Lev.top (.node v l r)<=100000000)(h3:0<=lo)(h4:lo<hi)(h5:hi<=2000000)(h6:a<b)
  (hp:Lev.apart lo hi a b=false) (hw:Lev.a2X up level (.node v l r) c=true) (hf:Lev.flat (.node v l r)=false):
  Calls Tryz.prog 217 #[.pointer u,.agg #[.int .i64 lo,.int .i64 hi],.agg #[.int .i64 a,.int .i64 b],.int .i64 c,.func (.func fn) #[] #[.pointer (some ⟨k,0,none⟩)]] w fun e w'=>e=.returned (fmV (Lev.fm up level (.node v l r) lo hi a b c))/\Below w.heap.size w w':=by
 have tp:=hB.top;have tl:=hB.2.2.2.1.top;have tr:=hB.2.2.2.2.top;have hv:=hB.1;have hv0:=hg.1;have ht:Lev.top (.node v l r)=v+max (Lev.top l) (Lev.top r):=rfl;have gl:=Lev.a2O l lo (Lev.mid lo hi) 0 hg.2.2.1
 have t0:0<=Lev.top (.node v l r):=by
  obtain⟨_,x,_,_,e⟩:=Lev.a8H (.node v l r) lo hi h4 hg;have:=Lev.a2O (.node v l r) lo hi x hg;omega
 have h2':2<=hi-lo:=by
  rcases hg.2.1 with ⟨e1,e2⟩|h2
  ·have hf':(Lev.isNil l && Lev.isNil r)=false:=hf;simp[e1,e2] at hf'
  ·exact h2
 have hm:lo<Lev.mid lo hi/\Lev.mid lo hi<hi:=by unfold Lev.mid;omega
 have AK:=a0b (fun w' k'=>g1w hG (.node v l r) u F c level k w' (a2d.later h k') hB (a0a k' hc) (by omega) (by omega));have HFL:=a0b (fun (w':World) (k':Below w.heap.size w w')=>a5E w' (a2d.later h k'));obtain⟨bk,pl,pr,Fl,Fr,rfl,rfl,hh⟩:=a7G h
 have I1:Hid (∀ w',Below w.heap.size w w'->Calls Tryz.prog 217 #[.pointer pl,.agg #[.int .i64 lo,.int .i64 (Lev.mid lo hi)],.agg #[.int .i64 a,.int .i64 b],.int .i64 (c+v),.func (.func fn) #[] #[.pointer (some ⟨k,0,none⟩)]] w' fun e w''=>e=.returned (fmV (Lev.fm up level l lo (Lev.mid lo hi) a b (c+v)))/\Below w'.heap.size w' w'') :=
  fun w' k'=>ihl.out pl Fl lo _ a b (c+v) level k w' (hh.l.later k') hB.2.2.2.1 hg.2.2.1 (a0a k' hc) (by omega) (by omega) h3 hm.1 (by omega) h6
 have I2:Hid (∀ w',Below w.heap.size w w'->Calls Tryz.prog 217 #[.pointer pr,.agg #[.int .i64 (Lev.mid lo hi),.int .i64 hi],.agg #[.int .i64 a,.int .i64 b],.int .i64 (c+v),.func (.func fn) #[] #[.pointer (some ⟨k,0,none⟩)]] w' fun e w''=>e=.returned (fmV (Lev.fm up level r (Lev.mid lo hi) hi a b (c+v)))/\Below w'.heap.size w' w'') :=
  fun w' k'=>ihr.out pr Fr _ hi a b (c+v) level k w' (hh.r.later k') hB.2.2.2.2 hg.2.2.2 (a0a k' hc) (by omega) (by omega) (by omega) hm.2 h5 h6
 rw[c4c hp hw hf];have hcv:IntKind.i64.wrap (c+v)=c+v:=a0i (by omega) (by omega);have c0:=hh.c0;have c3:=hh.c3;have c4:=hh.c4;clear tp tl tr ht gl t0 h2' hh hB hg h2 h ihl ihr hc hv hv0;generalize Lev.fm up level l lo (Lev.mid lo hi) a b (c+v)=ol at *;generalize Lev.fm up level r (Lev.mid lo hi) hi a b (c+v)=or at *;rcases hG with ⟨rfl,rfl⟩|⟨rfl,rfl⟩
 all_goals
  go_enter Tryz.func217,Tryz.ntmps217
  go_wp2_with fail
  refine (a0N _ _ _ _ _).mono ?_;rintro e w1 ⟨rfl,hb⟩;rw[hp];have ⟨q0,q1,q2,q3,hs,hBw⟩:=boxes hb;have d0:=a0a hBw c0;have d3:=a0a hBw c3;have d4:=a0a hBw c4;have HB:=a0b hBw;clear hb hBw c0 c3 c4
  go_wp2_with fail
  refine (AK.out _ HB.out).mono ?_;rintro e w2 ⟨rfl,hb⟩;rw[hw];have r0:w2.cell? ⟨w.heap.size,0,none⟩=some (.int .i64 lo):=a0a hb q0;have r1:w2.cell? ⟨w.heap.size,1,none⟩=some (.int .i64 hi):=a0a hb q1;have r2:w2.cell? ⟨w.heap.size+1,0,none⟩=some (.int .i64 a):=a0a hb q2;have r3:w2.cell? ⟨w.heap.size+1,1,none⟩=some (.int .i64 b):=a0a hb q3;have e0:=a0a hb d0;have e3:=a0a hb d3;have e4:=a0a hb d4;have HC:=a0b (a0j HB.out hb (zq _));clear HB hb q0 q1 q2 q3 hs d0 d3 d4 AK
  go_wp2_with fail
  refine (HFL.out _ HC.out).mono ?_;rintro e w2' ⟨rfl,rfl⟩;rw[hf];clear HFL
  go_wp2_with fail
  refine (a4c _ _ _ (by omega) (by omega) (by omega)).mono ?_;rintro e w3 ⟨rfl,hb⟩;have hX:Below w2'.heap.size w2' ((w3.alloc (.cells #[.int .i64 lo,.int .i64 (Lev.mid lo hi)] 60)).alloc (.cells #[.int .i64 (Lev.mid lo hi),.int .i64 hi] 60)):=(hb.alloc hb.size _).alloc (by have:=hb.size;simp;omega) _
  have hM:FS ((w3.alloc (.cells #[.int .i64 lo,.int .i64 (Lev.mid lo hi)] 60)).alloc (.cells #[.int .i64 (Lev.mid lo hi),.int .i64 hi] 60)) ((w3.alloc (.cells #[.int .i64 lo,.int .i64 (Lev.mid lo hi)] 60)).alloc (.cells #[.int .i64 (Lev.mid lo hi),.int .i64 hi] 60)) bk (w.heap.size+1) w3.heap.size v lo hi a b pl pr :=
   ⟨a0a hX e0,a0a hX e3,a0a hX e4,a0a hX r2,a0a hX r3,by simp,by simp,by simp,by simp,Below.refl _ _⟩
  have HX:=a0b (a0j HC.out hX (zq _));clear HC hX hb r0 r1 r2 r3 e0 e3 e4
  go_upto_region 6 with fail
  generalize (World.alloc _ (.cells #[.int .i64 (Lev.mid lo hi),.int .i64 hi] 60))=X at hM HX ⊢;generalize w3.heap.size=M at hM ⊢
  cases ol with
  |some y =>
   simp only[fmV] at I1 ⊢
   go_region_held3 (fun w'=>w'.cell? ⟨bk,0,none⟩=some (.int .i64 v)/\w'.cell? ⟨bk,3,none⟩=some (.pointer pl)/\w'.cell? ⟨bk,4,none⟩=some (.pointer pr)/\w'.cell? ⟨w.heap.size+1,0,none⟩=some (.int .i64 a)/\w'.cell? ⟨w.heap.size+1,1,none⟩=some (.int .i64 b)/\w'.cell? ⟨M,0,none⟩=some (.int .i64 lo)/\w'.cell? ⟨M,1,none⟩=some (.int .i64 (Lev.mid lo hi))/\w'.cell? ⟨M+1,0,none⟩=some (.int .i64 (Lev.mid lo hi))/\w'.cell? ⟨M+1,1,none⟩=some (.int .i64 hi)/\Below X.heap.size X w')
    (first
     |exact FS.later hM (a0q _)
     |(go_split_ands;exact FS.later hM (a0j (by assumption) hbf (zq _))))
    (first
     |(go_at_call 217;go_split_ands;refine (I1.out _ (a0j HX.out (by assumption) (zq _))).mono ?_;rintro e w4 ⟨rfl,hbf⟩))
   have HF:=a0b (a0j HX.out (by go_split_ands;assumption:Below X.heap.size X w4) (zq _));clear hM HX I1 I2
   go_wp2_with fail
   go_ret2;exact⟨rfl,HF.out⟩
  |none =>
   simp only[fmV] at I1 ⊢
   go_region_held3 (fun w'=>w'.cell? ⟨bk,0,none⟩=some (.int .i64 v)/\w'.cell? ⟨bk,3,none⟩=some (.pointer pl)/\w'.cell? ⟨bk,4,none⟩=some (.pointer pr)/\w'.cell? ⟨w.heap.size+1,0,none⟩=some (.int .i64 a)/\w'.cell? ⟨w.heap.size+1,1,none⟩=some (.int .i64 b)/\w'.cell? ⟨M,0,none⟩=some (.int .i64 lo)/\w'.cell? ⟨M,1,none⟩=some (.int .i64 (Lev.mid lo hi))/\w'.cell? ⟨M+1,0,none⟩=some (.int .i64 (Lev.mid lo hi))/\w'.cell? ⟨M+1,1,none⟩=some (.int .i64 hi)/\Below X.heap.size X w')
    (first
     |exact FS.later hM (a0q _)
     |(go_split_ands;exact FS.later hM (a0j (by assumption) hbf (zq _))))
    (first
     |(go_at_call 217;go_split_ands;refine (I1.out _ (a0j HX.out (by assumption) (zq _))).mono ?_;rintro e w4 ⟨rfl,hbf⟩))
   have hN:FS X w4 bk (w.heap.size+1) M v lo hi a b pl pr:=by assumption
   clear hM I1
   go_upto_region 9 with fail
   cases or with
   |some y =>
    simp only[fmV] at I2 ⊢
    go_region_held3 (fun w'=>w'.cell? ⟨bk,0,none⟩=some (.int .i64 v)/\w'.cell? ⟨bk,3,none⟩=some (.pointer pl)/\w'.cell? ⟨bk,4,none⟩=some (.pointer pr)/\w'.cell? ⟨w.heap.size+1,0,none⟩=some (.int .i64 a)/\w'.cell? ⟨w.heap.size+1,1,none⟩=some (.int .i64 b)/\w'.cell? ⟨M,0,none⟩=some (.int .i64 lo)/\w'.cell? ⟨M,1,none⟩=some (.int .i64 (Lev.mid lo hi))/\w'.cell? ⟨M+1,0,none⟩=some (.int .i64 (Lev.mid lo hi))/\w'.cell? ⟨M+1,1,none⟩=some (.int .i64 hi)/\Below X.heap.size X w')
     (first
      |exact FS.later hN (a0q _)
      |(go_split_ands;exact FS.later hN (a0j (a0q _) hbf (zq _))))
     (first
      |(go_at_call 217;go_split_ands;refine (I2.out _ (a0j HX.out (by assumption) (zq _))).mono ?_;rintro e w5 ⟨rfl,hbf⟩))
    have HF:=a0b (a0j HX.out (by go_split_ands;assumption:Below X.heap.size X w5) (zq _));clear hN HX I2
    go_wp2_with fail
    go_ret2;exact⟨rfl,HF.out⟩
   |none =>
    simp only[fmV] at I2 ⊢
    go_region_held3 (fun w'=>w'.cell? ⟨bk,0,none⟩=some (.int .i64 v)/\w'.cell? ⟨bk,3,none⟩=some (.pointer pl)/\w'.cell? ⟨bk,4,none⟩=some (.pointer pr)/\w'.cell? ⟨w.heap.size+1,0,none⟩=some (.int .i64 a)/\w'.cell? ⟨w.heap.size+1,1,none⟩=some (.int .i64 b)/\w'.cell? ⟨M,0,none⟩=some (.int .i64 lo)/\w'.cell? ⟨M,1,none⟩=some (.int .i64 (Lev.mid lo hi))/\w'.cell? ⟨M+1,0,none⟩=some (.int .i64 (Lev.mid lo hi))/\w'.cell? ⟨M+1,1,none⟩=some (.int .i64 hi)/\Below X.heap.size X w')
     (first
      |exact FS.later hN (a0q _)
      |(go_split_ands;exact FS.later hN (a0j (a0q _) hbf (zq _))))
     (first
      |(go_at_call 217;go_split_ands;refine (I2.out _ (a0j HX.out (by assumption) (zq _))).mono ?_;rintro e w5 ⟨rfl,hbf⟩))
    have HF:=a0b (a0j HX.out (by go_split_ands;assumption:Below X.heap.size X w5) (zq _));clear hN HX I2
    go_wp2_with fail
    go_ret2;exact⟨rfl,HF.out⟩
theorem e7H{up:Bool}(hG:h6p up fn):∀ t:Lev.T,b1k up fn t:=by
 intro t
 induction t with
 |nil =>
  intro u F lo hi a b c level k w h hB hg hc h1 h2 h3 h4 h5 h6;simp only[Lev.top] at h2
  cases hp:Lev.apart lo hi a b
  ·cases hw:Lev.a2X up level .nil c
   ·have e:Lev.fm up level .nil lo hi a b c=none:=by simp[Lev.fm,hw]
    rw[e];exact e7B hG .nil u F lo hi a b c level k w h hB hc (by omega) (by omega) hp hw
   ·have e:Lev.fm up level .nil lo hi a b c=some (max lo a):=by simp[Lev.fm,hw,hp]
    rw[e];exact e7D hG .nil u F lo hi a b c level k w h hB hc (by omega) (by omega) hp hw rfl
  ·have e:Lev.fm up level .nil lo hi a b c=none:=by simp[Lev.fm,hp]
   rw[e];exact a4t u lo hi a b c k _ w hp
 |node v l r ihl ihr =>
  intro u F lo hi a b c level k w h hB hg hc h1 h2 h3 h4 h5 h6
  have t0:0<=Lev.top (.node v l r):=by
   obtain⟨_,x,_,_,e⟩:=Lev.a8H (.node v l r) lo hi h4 hg;have:=Lev.a2O (.node v l r) lo hi x hg;omega
  cases hp:Lev.apart lo hi a b
  ·cases hw:Lev.a2X up level (.node v l r) c
   ·have e:Lev.fm up level (.node v l r) lo hi a b c=none:=by simp[Lev.fm,hw]
    rw[e];exact e7B hG _ u F lo hi a b c level k w h hB hc (by omega) (by omega) hp hw
   ·cases hf:Lev.flat (.node v l r)
    ·exact g9s hG v l r ihl ihr u F lo hi a b c level k w h hB hg hc h1 h2 h3 h4 h5 h6 hp hw hf
    ·have hf':(Lev.isNil l && Lev.isNil r)=true:=hf;have e:Lev.fm up level (.node v l r) lo hi a b c=some (max lo a):=by rw[Lev.fm];simp only[hw,hp,hf',Bool.false_or,Bool.not_true,Bool.false_eq_true,if_false,if_true]
     rw[e];exact e7D hG _ u F lo hi a b c level k w h hB hc (by omega) (by omega) hp hw hf
  ·have e:Lev.fm up level (.node v l r) lo hi a b c=none:=by simp[Lev.fm,hp]
   rw[e];exact a4t u lo hi a b c k _ w hp
def a4X(f:Int->Int)(long level s:Int):Prop:=∀ x,s<=x->x<s+long->f x<=level
def a8j(f:Int->Int)(a b long level:Int):Option Int->Prop
 |none=>∀ s,a<=s->s+long<=b->¬ a4X f long level s
 |some s=>a<=s/\s+long<=b/\a4X f long level s/\∀ s',a<=s'->s'<s->¬ a4X f long level s'
theorem c4P(h:Lev.a6o (fun z=>level<f z) 0 1048320 st (st+long) none)(h0:0<=st)(h1:st+long<=1048320):a4X f long level st:=by
 intro x k1 k2;have:=h x (by omega) (by omega) k1 k2;have this:¬ level<f x:=this;omega
theorem c6e{b:Int}(h:∀ s',a<=s'->s'<st->¬ a4X f long level s')(h5:level<f y5)(g:Lev.a6o (fun z=>f z<=level) 0 1048320 y5 b none)(k1:st<=y5)(k2:y5<st+long)(k3:0<=y5)(k4:b<=1048320):a8j f a b long level none:=by
 intro s' i1 i2 hr
 by_cases c:s'<st
 ·exact h s' i1 c hr
 ·by_cases d:s'<=y5
  ·have:=hr y5 d (by omega);omega
  ·have e:=hr s' (by omega) (by omega);exact g s' (by omega) (by omega) (by omega) (by omega) e
theorem c4U{b:Int}(h:∀ s',a<=s'->s'<st->¬ a4X f long level s')(h5:level<f y5)(g:Lev.a6o (fun z=>f z<=level) 0 1048320 y5 b (some y6))(k9:0<=a)(k0:a<=st)(k1:st<=y5)(k2:y5<st+long):a<=y6/\y6<=1048320/\∀ s',a<=s'->s'<y6->¬ a4X f long level s':=by
 obtain⟨g1,g2,g3,g4,g5,g6⟩:=g;refine⟨by omega,by omega,fun s' i1 i2 hr=>?_⟩
 by_cases c:s'<st
 ·exact h s' i1 c hr
 ·by_cases d:s'<=y5
  ·have:=hr y5 d (by omega);omega
  ·have e:=hr s' (by omega) (by omega);exact g6 s' (by omega) i2 (by omega) e
theorem c4V{b:Int}(h5:level<f y5)(g:Lev.a6o (fun z=>f z<=level) 0 1048320 y5 b (some y6)):y5<y6/\y6<1048320:=by
 obtain⟨g1,g2,g3,g4,g5,g6⟩:=g;have g5:f y6<=level:=g5
 by_cases e:y5=y6
 ·subst e;omega
 ·omega
theorem c3K(t:Lev.T)(tb o:Nat)(u:Option Addr)(F:List Nat)(a b long level:Int)(w:World)(c:w.cell? ⟨tb,o,none⟩=some (.pointer u))(h:a2d w t (.pointer u) F)(hB:LB t)(hg:Lev.Good t 0 1048320)(h0:0<=a)(h1:a<b)(h2:b<=1048320)(h3:1<=long)(h4:long<=1048320):
  Calls Tryz.prog 154 #[.pointer (some ⟨tb,o,none⟩),.agg #[.int .i64 a,.int .i64 b],.int .i64 long,.int .i64 level] w fun e w'=>∃ r:Option Int,e=.returned (fmV r)/\a8j (Lev.lev t 0 1048320) a b long level r/\Below w.heap.size w w':=by
 have tp:=hB.top
 have C1:Hid (∀ (w':World) (x y:Int),Below w.heap.size w w'->w'.cell? ⟨w.heap.size+1,0,none⟩=some (.int .i64 level)->x<y->Calls Tryz.prog 217 #[.pointer u,.agg #[.int .i64 0,.int .i64 1048320],.agg #[.int .i64 x,.int .i64 y],.int .i64 0,.func (.func 213) #[] #[.pointer (some ⟨w.heap.size+1,0,none⟩)]] w' fun e w''=>e=.returned (fmV (Lev.fm true level t 0 1048320 x y 0))/\Below w'.heap.size w' w''):=by
  intro w' x y k1 k2 k3;exact e7H (.inl ⟨rfl,rfl⟩) t u F 0 1048320 x y 0 level _ w' (h.later k1) hB hg k2 (by omega) (by omega) (by omega) (by omega) (by omega) k3
 have C2:Hid (∀ (w':World) (x y:Int),Below w.heap.size w w'->w'.cell? ⟨w.heap.size+1,0,none⟩=some (.int .i64 level)->x<y->Calls Tryz.prog 217 #[.pointer u,.agg #[.int .i64 0,.int .i64 1048320],.agg #[.int .i64 x,.int .i64 y],.int .i64 0,.func (.func 215) #[] #[.pointer (some ⟨w.heap.size+1,0,none⟩)]] w' fun e w''=>e=.returned (fmV (Lev.fm false level t 0 1048320 x y 0))/\Below w'.heap.size w' w''):=by
  intro w' x y k1 k2 k3;exact e7H (.inr ⟨rfl,rfl⟩) t u F 0 1048320 x y 0 level _ w' (h.later k1) hB hg k2 (by omega) (by omega) (by omega) (by omega) (by omega) k3
 have D1:Hid (∀ x y,x<y->Lev.a6o (fun z=>level<Lev.lev t 0 1048320 z) 0 1048320 x y (Lev.fm true level t 0 1048320 x y 0)):=by
  intro x y k3;have:=Lev.c6r true level t 0 1048320 x y 0 (by omega) k3 hg
  simpa only[Lev.want,if_true,Int.zero_add] using this
 have D2:Hid (∀ x y,x<y->Lev.a6o (fun z=>Lev.lev t 0 1048320 z<=level) 0 1048320 x y (Lev.fm false level t 0 1048320 x y 0)):=by
  intro x y k3;have:=Lev.c6r false level t 0 1048320 x y 0 (by omega) k3 hg
  simpa only[Lev.want,Bool.false_eq_true,if_false,Int.zero_add] using this
 clear h hB hg tp
 go_enter Tryz.func154,Tryz.ntmps154
 go_wp2_with fail
 have hX:Below w.heap.size w ((w.alloc (.cells #[.int .i64 a,.int .i64 b] 60)).alloc (.cells #[.int .i64 level] 3)):=((zr _ _).alloc (zq _) _).alloc (by simp) _;have x1:((w.alloc (.cells #[.int .i64 a,.int .i64 b] 60)).alloc (.cells #[.int .i64 level] 3)).cell? ⟨w.heap.size,1,none⟩=some (.int .i64 b):=by simp
 have x2:((w.alloc (.cells #[.int .i64 a,.int .i64 b] 60)).alloc (.cells #[.int .i64 level] 3)).cell? ⟨w.heap.size+1,0,none⟩=some (.int .i64 level):=by simp
 have xc:=a0a hX c;have HX:=a0b hX;clear hX c;generalize (World.alloc _ (.cells #[.int .i64 level] 3))=X at x1 x2 xc HX ⊢
 go_loopw [12,13,14] (fun s _ _ wx=>∃ st:Int,s=.int .i64 st/\a<=st/\st<=1048320/\(∀ s',a<=s'->s'<st->¬ a4X (Lev.lev t 0 1048320) long level s')/\Below X.heap.size X wx) (fun s _ _ _=>(1048321-intOf s).toNat)
 case atStart=>exact⟨a,rfl,by omega,by omega,fun s' _ _=>by omega,Below.refl _ _⟩
 case round =>
  obtain⟨st,rfl,hs1,hs2,hs3,hw⟩:=hrel;have HS:=a0b hs3;have y1:=a0a hw x1;have y2:=a0a hw x2;have yc:=a0a hw xc;clear hs3
  by_cases hlt:st+long<=b
  ·have hwr:IntKind.i64.wrap (st+long)=st+long:=a0i (by omega) (by omega);have G1:=a0b (D1.out st (st+long) (by omega));have P1:=a0b (fun w' k1 k2=>C1.out w' st (st+long) k1 k2 (by omega))
   cases e1:Lev.fm true level t 0 1048320 st (st+long) 0 with
   |none =>
    rw[e1] at G1;simp only[e1,fmV] at P1;clear e1
    go_upto_region 5 with fail
    go_region_held3 (fun w'=>w'.cell? ⟨tb,o,none⟩=some (.pointer u)/\w'.cell? ⟨w.heap.size,1,none⟩=some (.int .i64 b)/\w'.cell? ⟨w.heap.size+1,0,none⟩=some (.int .i64 level)/\Below X.heap.size X w')
     (first
      |exact⟨yc,y1,y2,a0j hw (a0q _) (zq _)⟩
      |(go_split_ands;exact⟨a0a hbf (by assumption),a0a hbf (by assumption),a0a hbf (by assumption),a0j (by assumption) hbf (zq _)⟩))
     (first
      |(go_at_call 212;go_split_ands;refine (a2N _).mono ?_;rintro e w4 ⟨rfl,hbf⟩)
      |(go_at_call 217;go_split_ands;refine (P1.out _ (a0j HX.out (by assumption) (zq _)) (by assumption)).mono ?_;rintro e w5 ⟨rfl,hbf⟩))
    have HF:=a0b (a0j HX.out (by go_split_ands;assumption:Below X.heap.size X w5) (zq _));clear P1 C1 C2 D2 D1 HX
    go_wp2_with fail
    go_ret2;exact⟨some st,rfl,⟨hs1,hlt,c4P G1.out (by omega) (by omega),HS.out⟩,HF.out⟩
   |some y5 =>
    rw[e1] at G1;simp only[e1,fmV] at P1;clear e1;obtain⟨_,g2,g3,g4,g5,g6⟩:=G1.out;have g5':level<Lev.lev t 0 1048320 y5:=g5;have HG5:=a0b g5';clear g5 g5' g6 G1;have G2:=a0b (D2.out y5 b (by omega));have P2:=a0b (fun w' k1 k2=>C2.out w' y5 b k1 k2 (by omega))
    go_upto_region 5 with fail
    go_region_held3 (fun w'=>w'.cell? ⟨tb,o,none⟩=some (.pointer u)/\w'.cell? ⟨w.heap.size,1,none⟩=some (.int .i64 b)/\w'.cell? ⟨w.heap.size+1,0,none⟩=some (.int .i64 level)/\Below X.heap.size X w')
     (first
      |exact⟨yc,y1,y2,a0j hw (a0q _) (zq _)⟩
      |(go_split_ands;exact⟨a0a hbf (by assumption),a0a hbf (by assumption),a0a hbf (by assumption),a0j (by assumption) hbf (zq _)⟩))
     (first
      |(go_at_call 212;go_split_ands;refine (a2N _).mono ?_;rintro e w4 ⟨rfl,hbf⟩)
      |(go_at_call 217;go_split_ands;refine (P1.out _ (a0j HX.out (by assumption) (zq _)) (by assumption)).mono ?_;rintro e w5 ⟨rfl,hbf⟩))
    have hz:Below X.heap.size X w5:=by go_split_ands;assumption
    have z1:=a0a hz x1;have z2:=a0a hz x2;have zc:=a0a hz xc;clear P1
    go_upto_region 8 with fail
    cases e2:Lev.fm false level t 0 1048320 y5 b 0 with
    |none =>
     rw[e2] at G2;simp only[e2,fmV] at P2;clear e2
     go_region_held3 (fun w'=>w'.cell? ⟨tb,o,none⟩=some (.pointer u)/\w'.cell? ⟨w.heap.size,1,none⟩=some (.int .i64 b)/\w'.cell? ⟨w.heap.size+1,0,none⟩=some (.int .i64 level)/\Below X.heap.size X w')
     (first
      |exact⟨zc,z1,z2,a0j hz (a0q _) (zq _)⟩
      |(go_split_ands;exact⟨a0a hbf (by assumption),a0a hbf (by assumption),a0a hbf (by assumption),a0j (by assumption) hbf (zq _)⟩))
     (first
      |(go_at_call 212;go_split_ands;refine (a2N _).mono ?_;rintro e w4 ⟨rfl,hbf⟩)
      |(go_at_call 217;go_split_ands;refine (P2.out _ (a0j HX.out (by assumption) (zq _)) (by assumption)).mono ?_;rintro e w6 ⟨rfl,hbf⟩))
     have HF:=a0b (a0j HX.out (by go_split_ands;assumption:Below X.heap.size X w6) (zq _));clear P2 C1 C2 D2 D1 HX
     go_wp2_with fail
     go_ret2;exact⟨none,rfl,c6e HS.out HG5.out G2.out g3 (by omega) (by omega) (by omega),HF.out⟩
    |some y6 =>
     rw[e2] at G2;simp only[e2,fmV] at P2;clear e2
     go_region_held3 (fun w'=>w'.cell? ⟨tb,o,none⟩=some (.pointer u)/\w'.cell? ⟨w.heap.size,1,none⟩=some (.int .i64 b)/\w'.cell? ⟨w.heap.size+1,0,none⟩=some (.int .i64 level)/\Below X.heap.size X w')
     (first
      |exact⟨zc,z1,z2,a0j hz (a0q _) (zq _)⟩
      |(go_split_ands;exact⟨a0a hbf (by assumption),a0a hbf (by assumption),a0a hbf (by assumption),a0j (by assumption) hbf (zq _)⟩))
     (first
      |(go_at_call 212;go_split_ands;refine (a2N _).mono ?_;rintro e w4 ⟨rfl,hbf⟩)
      |(go_at_call 217;go_split_ands;refine (P2.out _ (a0j HX.out (by assumption) (zq _)) (by assumption)).mono ?_;rintro e w6 ⟨rfl,hbf⟩))
     have hv:Below X.heap.size X w6:=by go_split_ands;assumption
     have HV:=a0b hv;clear P2 C1 C2 D2 D1 HX hv
     go_wp2_with fail
     go_roundw
     case rel=>have nx:=c4U HS.out HG5.out G2.out h0 hs1 g3 (by omega);exact⟨y6,rfl,nx.1,nx.2.1,nx.2.2,HV.out⟩
     case measure=>simp[intOf];have:=c4V HG5.out G2.out;omega
  ·go_wp2_with fail
   go_ret2;exact⟨none,rfl,fun s' k1 k2=>HS.out s' k1 (by omega),a0j HX.out hw (zq _)⟩
namespace Avl
structure It where
 f:Int
 t:Int
 n:Int
 v:Nat
inductive S where
 |nil:S
 |node (x:It) (l r:S):S
def isNil:S->Bool
 |.nil=>true
 |.node ..=>false
def left:S->S
 |.nil=>.nil
 |.node _ l _=>l
def right:S->S
 |.nil=>.nil
 |.node _ _ r=>r
def ht:S->Int
 |.nil=>0
 |.node _ l r=>1+max (ht l) (ht r)
def c4a(x:Int)(l r:S)(dl dr:Int):Int :=
 let m:=if isNil l then x else max x dl
 if isNil r then m else max m dr
def late:S->Int
 |.nil=>0
 |.node x l r=>c4a x.t l r (late l) (late r)
def size:S->Nat
 |.nil=>0
 |.node _ l r=>1+size l+size r
def a0w:S->List It
 |.nil=>[]
 |.node x l r=>a0w l++x :: a0w r
def side(f n:Int)(x:It):Int:=if f<x.f then -1 else if x.f<f then 1 else if n<x.n then -1 else if x.n<n then 1 else 0
def c4N:S->S
 |.node x (.node y a b) r=>.node y a (.node x b r)
 |t=>t
def c4O:S->S
 |.node x l (.node y a b)=>.node y (.node x l a) b
 |t=>t
def c4k(x:It)(l r:S):S:=c4N (.node x (if ht (left l)<ht (right l) then c4O l else l) r)
def c4j(x:It)(l r:S):S:=c4O (.node x l (if ht (right r)<ht (left r) then c4N r else r))
def bal(x:It)(l r:S):S:=if 1<ht l-ht r then c4k x l r else if ht l-ht r < -1 then c4j x l r else .node x l r
def put(x:It):S->S
 |.nil=>bal x .nil .nil
 |.node y l r=>if side x.f x.n y<0 then bal y (put x l) r else if 0<side x.f x.n y then bal y l (put x r) else bal { y with t:=x.t,v:=x.v } l r
def a8O:It->S->S->It
 |x,.nil,_=>x
 |_,.node y a b,_=>a8O y a b
def a5P:It->S->S->S
 |_,.nil,r=>r
 |x,.node y a b,r=>bal x (a5P y a b) r
def a5d(l:S):S->S
 |.nil=>l
 |.node y a b=>bal (a8O y a b) l (a5P y a b)
def drop(f n:Int):S->S
 |.nil=>.nil
 |.node y l r=>if side f n y<0 then bal y (drop f n l) r else if 0<side f n y then bal y l (drop f n r) else a5d l r
theorem a1a:∀ t:S,0<=ht t
 |.nil=>by simp[ht]
 |.node _ l r=>by have:=a1a l;have:=a1a r;simp only[ht];omega
theorem a2D:∀ t:S,ht t<=size t
 |.nil=>by simp[ht,size]
 |.node _ l r=>by have:=a2D l;have:=a2D r;simp only[ht,size];omega
theorem a5B{t:S}(h:0<ht t):∃ x l r,t=.node x l r:=by
 cases t with
 |nil=>simp[ht] at h
 |node x l r=>exact⟨x,l,r,rfl⟩
theorem b0M(t:S):a0w (c4N t)=a0w t:=by
 cases t with
 |nil=>rfl
 |node x l r=>cases l <;> simp[c4N,a0w]
theorem b0N(t:S):a0w (c4O t)=a0w t:=by
 cases t with
 |nil=>rfl
 |node x l r=>cases r <;> simp[c4O,a0w]
theorem a1G(x:It)(l r:S):a0w (bal x l r)=a0w l++x :: a0w r:=by
 unfold bal
 split
 ·unfold c4k;rw[b0M];split <;> simp[a0w,b0N]
 ·split
  ·unfold c4j;rw[b0N];split <;> simp[a0w,b0M]
  ·rfl
theorem a1k:∀ t:S,(a0w t).length=size t
 |.nil=>rfl
 |.node x l r=>by have:=a1k l;have:=a1k r;simp only[a0w,size,List.length_append,List.length_cons];omega
theorem a7D:∀ (x:It)(l r:S),a8O x l r :: a0w (a5P x l r)=a0w l++x :: a0w r
 |x,.nil,r=>by simp[a8O,a5P,a0w]
 |x,.node y a b,r=>by
  have:=a7D y a b;simp only[a8O,a5P,a1G,a0w];rw[<- List.cons_append,this]
theorem a8d(l r:S):a0w (a5d l r)=a0w l++a0w r:=by
 cases r with
 |nil=>simp[a5d,a0w]
 |node y a b=>simp only[a5d,a1G];rw[a7D];rfl
def lt(x y:It):Prop:=x.f<y.f\/(x.f=y.f/\x.n<y.n)
theorem a4j{f n:Int}{x:It}:side f n x<0↔f<x.f\/(f=x.f/\n<x.n):=by
 unfold side;repeat' split
 all_goals omega
theorem a6A{f n:Int}{x:It}:0<side f n x↔x.f<f\/(f=x.f/\x.n<n):=by
 unfold side;repeat' split
 all_goals omega
def ins(x:It):List It->List It
 |[]=>[x]
 |y :: r=>if side x.f x.n y<0 then x :: y :: r else y :: ins x r
theorem b3s{x y:It}(h:side x.f x.n y<0)(R:List It):∀ L:List It,ins x (L++y :: R)=ins x L++y :: R
 |[]=>by simp[ins,h]
 |z :: L=>by
  simp only[List.cons_append,ins]
  split
  ·simp
  ·rw[b3s h R L];simp
theorem b0L{x:It}(R:List It):∀ L:List It,(∀ z∈L,¬ side x.f x.n z<0)->ins x (L++R)=L++ins x R
 |[],_=>rfl
 |z :: L,h=>by
  simp only[List.cons_append,ins];rw[if_neg (h z (by simp)),b0L R L (fun y hy=>h y (by simp[hy]))]
def Ord(l:List It):Prop:=l.Pairwise lt
theorem b1D{x:It}{l r:S}(h:Ord (a0w (.node x l r))):Ord (a0w l)/\Ord (a0w r)/\(∀ z∈a0w l,lt z x)/\(∀ z∈a0w r,lt x z):=by
 simp only[a0w,Ord,List.pairwise_append,List.pairwise_cons] at h;exact⟨h.1,h.2.1.2,fun z hz=>h.2.2 z hz x (by simp),h.2.1.1⟩
theorem a9o(x:It):∀ t:S,Ord (a0w t)->(∀ z∈a0w t,¬ (z.f=x.f/\z.n=x.n))->a0w (put x t)=ins x (a0w t)
 |.nil,_,_=>by simp[put,a1G,a0w,ins]
 |.node y l r,h,hn=>by
  obtain⟨h1,h2,h3,h4⟩:=b1D h;have hy:=hn y (by simp[a0w]);unfold put
  by_cases a:side x.f x.n y<0
  ·rw[if_pos a,a1G,a9o x l h1 (fun z hz=>hn z (by simp[a0w,hz]))];simp only[a0w];rw[b3s a]
  ·by_cases b:0<side x.f x.n y
   ·rw[if_neg a,if_pos b,a1G,a9o x r h2 (fun z hz=>hn z (by simp[a0w,hz]))];simp only[a0w];rw[b0L _ _ (fun z hz=>?_)]
    ·simp[ins,a]
    ·have:=h3 z hz;rw[a4j];rw[a6A] at b;unfold lt at this;omega
   ·rw[a4j] at a;rw[a6A] at b;omega
theorem a4u{p:It->Bool}{l:List It}(h:∀ z∈l,p z=true):l.filter p=l:=List.filter_eq_self.2 h
def a8n(f n:Int)(z:It):Bool:=!(decide (z.f=f) && decide (z.n=n))
theorem a9k{f n:Int}{z y:It}(h:side f n y<0)(k:z=y\/lt y z):a8n f n z=true:=by
 rw[a4j] at h;simp[a8n];rcases k with rfl|k
 ·omega
 ·unfold lt at k;omega
theorem a9l{f n:Int}{z y:It}(h:0<side f n y)(k:z=y\/lt z y):a8n f n z=true:=by
 rw[a6A] at h;simp[a8n];rcases k with rfl|k
 ·omega
 ·unfold lt at k;omega
theorem a7E(f n:Int):∀ t:S,Ord (a0w t)->a0w (drop f n t)=(a0w t).filter (a8n f n)
 |.nil,_=>rfl
 |.node y l r,h=>by
  obtain⟨h1,h2,h3,h4⟩:=b1D h;unfold drop
  by_cases a:side f n y<0
  ·rw[if_pos a,a1G,a7E f n l h1];simp only[a0w,List.filter_append,List.filter_cons,a9k a (.inl rfl),if_true];rw[a4u (l:=a0w r) (fun z hz=>a9k a (.inr (h4 z hz)))]
  ·by_cases b:0<side f n y
   ·rw[if_neg a,if_pos b,a1G,a7E f n r h2];simp only[a0w,List.filter_append,List.filter_cons,a9l b (.inl rfl),if_true];rw[a4u (l:=a0w l) (fun z hz=>a9l b (.inr (h3 z hz)))]
   ·rw[if_neg a,if_neg b,a8d];have e:f=y.f/\n=y.n:=by rw[a4j] at a;rw[a6A] at b;omega
    have hy:a8n f n y=false:=by simp[a8n,e.1,e.2]
    simp only[a0w,List.filter_append,List.filter_cons,hy];rw[a4u (l:=a0w l) (fun z hz=>?_),a4u (l:=a0w r) (fun z hz=>?_)]
    ·simp
    ·have:=h4 z hz;simp[a8n];unfold lt at this;omega
    ·have:=h3 z hz;simp[a8n];unfold lt at this;omega
theorem b1I{x z:It}:∀ {l:List It},z∈ins x l↔z=x\/z∈l
 |[]=>by simp[ins]
 |y :: r=>by
  simp only[ins];split
  ·simp
  ·simp[b1I (l:=r)];constructor
   ·rintro (h|h|h)
    ·exact .inr (.inl h)
    ·exact .inl h
    ·exact .inr (.inr h)
   ·rintro (h|h|h)
    ·exact .inr (.inl h)
    ·exact .inl h
    ·exact .inr (.inr h)
theorem b0H(x:It):∀ l:List It,(ins x l).length=l.length+1
 |[]=>rfl
 |y :: r=>by
  simp only[ins];split
  ·simp
  ·simp[b0H x r]
theorem b9T{x:It}:∀ {l:List It},Ord l->(∀ z∈l,¬ (z.f=x.f/\z.n=x.n))->Ord (ins x l)
 |[],_,_=>by simp[ins,Ord]
 |y :: r,h,hn=>by
  simp only[Ord,List.pairwise_cons] at h;have hy:=hn y (by simp);simp only[ins];split
  ·rename_i a
   rw[a4j] at a;refine List.pairwise_cons.2 ⟨fun z hz=>?_,List.pairwise_cons.2 h⟩;rcases List.mem_cons.1 hz with rfl|hz
   ·unfold lt;omega
   ·have:=h.1 z hz;unfold lt at *;omega
  ·rename_i a
   refine List.pairwise_cons.2 ⟨fun z hz=>?_,b9T h.2 (fun z hz=>hn z (by simp[hz]))⟩;rcases b1I.1 hz with rfl|hz
   ·rw[a4j] at a;unfold lt;omega
   ·exact h.1 z hz
theorem b0C{l:List It}(p:It->Bool)(h:Ord l):Ord (l.filter p):=List.Pairwise.filter p h
def meets(a b:Int)(x:It):Bool:=decide (x.f<b) && decide (a<x.t)
def meet(a b:Int):S->List It
 |.nil=>[]
 |.node x l r=>if late (.node x l r)<=a then [] else meet a b l++if b<=x.f then [] else (if a<x.t then [x] else [])++meet a b r
theorem b4Y:∀ (t:S),∀ z∈a0w t,z.t<=late t
 |.nil=>by simp[a0w]
 |.node x l r=>by
  have h1:=b4Y l;have h2:=b4Y r;intro z hz;simp only[late,c4a];simp only[a0w,List.mem_append,List.mem_cons] at hz;rcases hz with hz|rfl|hz
  ·have:=h1 z hz;have e:isNil l=false:=by cases l <;> simp_all [isNil,a0w]
   simp only[e,Bool.false_eq_true,if_false];split <;> omega
  ·split <;> split <;> omega
  ·have:=h2 z hz;have e:isNil r=false:=by cases r <;> simp_all [isNil,a0w]
   simp only[e,Bool.false_eq_true,if_false];split <;> omega
theorem b1J(a b:Int):∀ t:S,Ord (a0w t)->meet a b t=(a0w t).filter (meets a b)
 |.nil,_=>rfl
 |.node x l r,h=>by
  obtain⟨h1,h2,h3,h4⟩:=b1D h;have hl:=b4Y (.node x l r);unfold meet
  split
  ·rename_i hc
   symm;rw[List.filter_eq_nil_iff]
   intro z hz;have:=hl z hz;simp[meets];omega
  ·rw[b1J a b l h1];simp only[a0w,List.filter_append]
   congr 1
   split
   ·rename_i hb
    symm;rw[List.filter_eq_nil_iff]
    intro z hz;rcases List.mem_cons.1 hz with rfl|hz
    ·simp[meets];omega
    ·have:=h4 z hz;unfold lt at this;simp[meets];omega
   ·rename_i hb
    rw[b1J a b r h2,List.filter_cons];have hb':x.f<b:=by omega
    simp only[meets,hb',decide_true,Bool.true_and,decide_eq_true_eq]
    split <;> rfl
end Avl
structure a2G(w:World)(b:Nat)(x:Avl.It):Prop where
 c0:w.cell? ⟨b,0,none⟩=some (.int .i64 x.f)
 c1:w.cell? ⟨b,1,none⟩=some (.int .i64 x.t)
 c2:w.cell? ⟨b,2,none⟩=some (.int .i64 x.n)
 c3:w.cell? ⟨b,3,none⟩=some (.pointer (some ⟨x.v,0,none⟩))
 c4:∃ y,w.cell? ⟨b,4,none⟩=some (.int .i64 y)
 c5:∃ y,w.cell? ⟨b,5,none⟩=some (.int .i64 y)
 c6:∃ y,w.cell? ⟨b,6,none⟩=some (.pointer y)
 c7:∃ y,w.cell? ⟨b,7,none⟩=some (.pointer y)
 fz:∀ o,w.frozen? ⟨b,o,none⟩=false
def a2p(w:World):Avl.S->Value->List Nat->Prop
 |.nil,p,F=>p=.pointer none/\F=[]
 |.node x l r,p,F=>∃ (b:Nat) (pl pr:Option Addr) (Fl Fr:List Nat),p=.pointer (some ⟨b,0,none⟩)/\a2G w b x/\w.cell? ⟨b,4,none⟩=some (.int .i64 (Avl.late (.node x l r)))/\w.cell? ⟨b,5,none⟩=some (.int .i64 (Avl.ht (.node x l r)))/\w.cell? ⟨b,6,none⟩=some (.pointer pl)/\w.cell? ⟨b,7,none⟩=some (.pointer pr)/\a2p w l (.pointer pl) Fl/\a2p w r (.pointer pr) Fr/\F=b :: (Fl++Fr)/\F.Nodup
structure a0J(w:World)(b:Nat)(x:Avl.It)(l r:Avl.S)(pl pr:Option Addr)(Fl Fr:List Nat):Prop where
 n:a2G w b x
 c6:w.cell? ⟨b,6,none⟩=some (.pointer pl)
 c7:w.cell? ⟨b,7,none⟩=some (.pointer pr)
 l:a2p w l (.pointer pl) Fl
 r:a2p w r (.pointer pr) Fr
 nd:(b :: (Fl++Fr)).Nodup
theorem a2G.lt{x:Avl.It}(h:a2G w b x):b<w.heap.size:=World.block_lt_of_cell? _ _ h.c0
theorem a2G.off{x:Avl.It}(h:a2G w b x)(k:Off G w w')(hb:b ∉ G):a2G w' b x :=
 ⟨k.cell hb h.c0,k.cell hb h.c1,k.cell hb h.c2,k.cell hb h.c3,h.c4.imp (fun _=>k.cell hb),h.c5.imp (fun _=>k.cell hb),h.c6.imp (fun _=>k.cell hb),h.c7.imp (fun _=>k.cell hb),fun o=>(k.frozen hb h.lt).trans (h.fz o)⟩
theorem a2G.set4{x:Avl.It}(h:a2G w b x)(y:Int):a2G (w.setCell ⟨b,4,none⟩ (.int .i64 y)) b x:=by
 obtain⟨_,e⟩:=h.c4;exact⟨(zS _ _ _ _ (by simp)).trans h.c0,(zS _ _ _ _ (by simp)).trans h.c1,(zS _ _ _ _ (by simp)).trans h.c2,(zS _ _ _ _ (by simp)).trans h.c3,⟨_,World.cell?_setCell_same _ _ _ e⟩,h.c5.imp (fun _ e=>(zS _ _ _ _ (by simp)).trans e),h.c6.imp (fun _ e=>(zS _ _ _ _ (by simp)).trans e),h.c7.imp (fun _ e=>(zS _ _ _ _ (by simp)).trans e),fun o=>(zF ..).trans (h.fz o)⟩
theorem a2G.set5{x:Avl.It}(h:a2G w b x)(y:Int):a2G (w.setCell ⟨b,5,none⟩ (.int .i64 y)) b x:=by
 obtain⟨_,e⟩:=h.c5;exact⟨(zS _ _ _ _ (by simp)).trans h.c0,(zS _ _ _ _ (by simp)).trans h.c1,(zS _ _ _ _ (by simp)).trans h.c2,(zS _ _ _ _ (by simp)).trans h.c3,h.c4.imp (fun _ e=>(zS _ _ _ _ (by simp)).trans e),⟨_,World.cell?_setCell_same _ _ _ e⟩,h.c6.imp (fun _ e=>(zS _ _ _ _ (by simp)).trans e),h.c7.imp (fun _ e=>(zS _ _ _ _ (by simp)).trans e),fun o=>(zF ..).trans (h.fz o)⟩
theorem a2G.c5K{x:Avl.It}(h:a2G w b x)(y:Option Addr):a2G (w.setCell ⟨b,6,none⟩ (.pointer y)) b x:=by
 obtain⟨_,e⟩:=h.c6;exact⟨(zS _ _ _ _ (by simp)).trans h.c0,(zS _ _ _ _ (by simp)).trans h.c1,(zS _ _ _ _ (by simp)).trans h.c2,(zS _ _ _ _ (by simp)).trans h.c3,h.c4.imp (fun _ e=>(zS _ _ _ _ (by simp)).trans e),h.c5.imp (fun _ e=>(zS _ _ _ _ (by simp)).trans e),⟨_,World.cell?_setCell_same _ _ _ e⟩,h.c7.imp (fun _ e=>(zS _ _ _ _ (by simp)).trans e),fun o=>(zF ..).trans (h.fz o)⟩
theorem a2G.a2w{x:Avl.It}(h:a2G w b x)(y:Option Addr):a2G (w.setCell ⟨b,7,none⟩ (.pointer y)) b x:=by
 obtain⟨_,e⟩:=h.c7;exact⟨(zS _ _ _ _ (by simp)).trans h.c0,(zS _ _ _ _ (by simp)).trans h.c1,(zS _ _ _ _ (by simp)).trans h.c2,(zS _ _ _ _ (by simp)).trans h.c3,h.c4.imp (fun _ e=>(zS _ _ _ _ (by simp)).trans e),h.c5.imp (fun _ e=>(zS _ _ _ _ (by simp)).trans e),h.c6.imp (fun _ e=>(zS _ _ _ _ (by simp)).trans e),⟨_,World.cell?_setCell_same _ _ _ e⟩,fun o=>(zF ..).trans (h.fz o)⟩
theorem a2p.lt{w:World}:∀ {t:Avl.S}{p:Value}{F:List Nat},a2p w t p F->∀ k∈F,k<w.heap.size
 |.nil,p,F,h,k,hk=>by rw[h.2] at hk;cases hk
 |.node a l r,p,F,h,k,hk=>by
  obtain⟨b,pl,pr,Fl,Fr,rfl,n,c4,c5,c6,c7,hl,hr,rfl,nd⟩:=h;rcases List.mem_cons.1 hk with rfl|hk
  ·exact n.lt
  ·rcases List.mem_append.1 hk with hk|hk
   ·exact a2p.lt hl k hk
   ·exact a2p.lt hr k hk
theorem a2p.off{G:List Nat}{w w':World}(h:Off G w w'):∀ {t:Avl.S}{p:Value}{F:List Nat},a2p w t p F->(∀ k∈F,k ∉ G)->a2p w' t p F
 |.nil,p,F,hr,_=>hr
 |.node a l r,p,F,hr,hd=>by
  obtain⟨b,pl,pr,Fl,Fr,rfl,n,c4,c5,c6,c7,hl,hr,rfl,nd⟩:=hr;have hb:b ∉ G:=hd b (by simp);exact⟨b,pl,pr,Fl,Fr,rfl,n.off h hb,h.cell hb c4,h.cell hb c5,h.cell hb c6,h.cell hb c7,a2p.off h hl (fun k hk=>hd k (by simp[hk])),a2p.off h hr (fun k hk=>hd k (by simp[hk])),rfl,nd⟩
theorem a2p.same{t:Avl.S}(h:a2p w t p F)(k:Off [] w w'):a2p w' t p F:=h.off k (fun _ _=>by simp)
theorem a2p.later{t:Avl.S}(h:a2p w t p F)(k:Below w.heap.size w w'):a2p w' t p F:=h.same (Off.of_below k)
theorem a2p.nodup{t:Avl.S}(h:a2p w t p F):F.Nodup:=by
 cases t with
 |nil=>rw[h.2];exact List.nodup_nil
 |node a l r=>obtain⟨b,_,_,_,_,_,_,_,_,_,_,_,_,_,nd⟩:=h;exact nd
theorem a2p.half{x:Avl.It}{l r:Avl.S}(h:a2p w (.node x l r) (.pointer u) F):∃ (b:Nat)(pl pr:Option Addr)(Fl Fr:List Nat),u=some ⟨b,0,none⟩/\F=b :: (Fl++Fr)/\a0J w b x l r pl pr Fl Fr/\w.cell? ⟨b,4,none⟩=some (.int .i64 (Avl.late (.node x l r)))/\w.cell? ⟨b,5,none⟩=some (.int .i64 (Avl.ht (.node x l r))):=by
 obtain⟨b,pl,pr,Fl,Fr,hp,n,c4,c5,c6,c7,hl,hr,hF,nd⟩:=h
 cases hp
 exact⟨b,pl,pr,Fl,Fr,rfl,hF,⟨n,c6,c7,hl,hr,hF ▸ nd⟩,c4,c5⟩
theorem a0J.rep{x:Avl.It}{l r:Avl.S}(h:a0J w b x l r pl pr Fl Fr)(c4:w.cell? ⟨b,4,none⟩=some (.int .i64 (Avl.late (.node x l r))))(c5:w.cell? ⟨b,5,none⟩=some (.int .i64 (Avl.ht (.node x l r)))):a2p w (.node x l r) (.pointer (some ⟨b,0,none⟩)) (b :: (Fl++Fr)) :=
 ⟨b,pl,pr,Fl,Fr,rfl,h.n,c4,c5,h.c6,h.c7,h.l,h.r,rfl,h.nd⟩
theorem a0J.off{x:Avl.It}{l r:Avl.S}(h:a0J w b x l r pl pr Fl Fr)(k:Off G w w')(hb:b ∉ G)(hl:∀ y∈Fl,y ∉ G)(hr:∀ y∈Fr,y ∉ G):a0J w' b x l r pl pr Fl Fr :=
 ⟨h.n.off k hb,k.cell hb h.c6,k.cell hb h.c7,h.l.off k hl,h.r.off k hr,h.nd⟩
theorem a0J.same{x:Avl.It}{l r:Avl.S}(h:a0J w b x l r pl pr Fl Fr)(k:Off [] w w'):a0J w' b x l r pl pr Fl Fr:=h.off k (by simp) (by simp) (by simp)
theorem a0J.parts{x:Avl.It}{l r:Avl.S}(h:a0J w b x l r pl pr Fl Fr):b ∉ Fl/\b ∉ Fr/\(∀ y∈Fl,y ∉ [b])/\(∀ y∈Fr,y ∉ [b])/\(∀ y∈Fr,y ∉ Fl)/\(∀ y∈Fl,y ∉ Fr)/\Fl.Nodup/\Fr.Nodup:=by
 have nd:=h.nd;rw[List.nodup_cons,List.nodup_append] at nd;obtain⟨n1,n2,n3,n4⟩:=nd;exact⟨fun e=>n1 (by simp[e]),fun e=>n1 (by simp[e]),fun y hy=>by simp;rintro rfl;exact n1 (by simp[hy]),fun y hy=>by simp;rintro rfl;exact n1 (by simp[hy]),fun y hx hy=>n4 y hy y hx rfl,fun y hx hy=>n4 y hx y hy rfl,n2,n3⟩
theorem a0J.lt{x:Avl.It}{l r:Avl.S}(h:a0J w b x l r pl pr Fl Fr):∀ k∈b :: (Fl++Fr),k<w.heap.size:=by
 intro k hk;rcases List.mem_cons.1 hk with rfl|hk
 ·exact h.n.lt
 ·rcases List.mem_append.1 hk with hk|hk
  ·exact h.l.lt k hk
  ·exact h.r.lt k hk
theorem a0J.set4{x:Avl.It}{l r:Avl.S}(h:a0J w b x l r pl pr Fl Fr)(y:Int):a0J (w.setCell ⟨b,4,none⟩ (.int .i64 y)) b x l r pl pr Fl Fr :=
 ⟨h.n.set4 y,(zS _ _ _ _ (by simp)).trans h.c6,(zS _ _ _ _ (by simp)).trans h.c7,h.l.off (Off.set0 ..) h.parts.2.2.1,h.r.off (Off.set0 ..) h.parts.2.2.2.1,h.nd⟩
theorem a0J.set5{x:Avl.It}{l r:Avl.S}(h:a0J w b x l r pl pr Fl Fr)(y:Int):a0J (w.setCell ⟨b,5,none⟩ (.int .i64 y)) b x l r pl pr Fl Fr :=
 ⟨h.n.set5 y,(zS _ _ _ _ (by simp)).trans h.c6,(zS _ _ _ _ (by simp)).trans h.c7,h.l.off (Off.set0 ..) h.parts.2.2.1,h.r.off (Off.set0 ..) h.parts.2.2.2.1,h.nd⟩
theorem a0J.setl{x:Avl.It}{r l':Avl.S}(h:a2G w b x)(c7:w.cell? ⟨b,7,none⟩=some (.pointer pr))(hl:a2p w l' (.pointer u) F')(hr:a2p w r (.pointer pr) Fr)(nd:(b :: (F'++Fr)).Nodup):a0J (w.setCell ⟨b,6,none⟩ (.pointer u)) b x l' r u pr F' Fr:=by
 obtain⟨_,e⟩:=h.c6;have nd':=nd;rw[List.nodup_cons,List.nodup_append] at nd';exact⟨h.c5K u,World.cell?_setCell_same _ _ _ e,(zS _ _ _ _ (by simp)).trans c7,hl.off (Off.set0 ..) (fun y hy=>by simp;rintro rfl;exact nd'.1 (by simp[hy])),hr.off (Off.set0 ..) (fun y hy=>by simp;rintro rfl;exact nd'.1 (by simp[hy])),nd⟩
theorem a0J.setr{x:Avl.It}{l r':Avl.S}(h:a2G w b x)(c6:w.cell? ⟨b,6,none⟩=some (.pointer pl))(hl:a2p w l (.pointer pl) Fl)(hr:a2p w r' (.pointer u) F')(nd:(b :: (Fl++F')).Nodup):a0J (w.setCell ⟨b,7,none⟩ (.pointer u)) b x l r' pl u Fl F':=by
 obtain⟨_,e⟩:=h.c7;have nd':=nd;rw[List.nodup_cons,List.nodup_append] at nd';exact⟨h.a2w u,(zS _ _ _ _ (by simp)).trans c6,World.cell?_setCell_same _ _ _ e,hl.off (Off.set0 ..) (fun y hy=>by simp;rintro rfl;exact nd'.1 (by simp[hy])),hr.off (Off.set0 ..) (fun y hy=>by simp;rintro rfl;exact nd'.1 (by simp[hy])),nd⟩
theorem c2e(w:World):
  Calls Tryz.prog 282 #[.pointer none] w fun e w'=>e=.returned (.int .i64 0)/\w'=w:=by
 go_enter Tryz.func282,Tryz.ntmps282
 go_wp2;go_ret;exact⟨rfl,rfl⟩
theorem b9m(b:Nat)(x:Int)(w:World)(c1:w.cell? ⟨b,5,none⟩=some (.int .i64 x)):
  Calls Tryz.prog 282 #[.pointer (some ⟨b,0,none⟩)] w fun e w'=>e=.returned (.int .i64 x)/\w'=w:=by
 go_enter Tryz.func282,Tryz.ntmps282
 go_wp2;go_ret;exact⟨rfl,rfl⟩
theorem a1o{t:Avl.S}(w:World)(h:a2p w t (.pointer u) F):
  Calls Tryz.prog 282 #[.pointer u] w fun e w'=>e=.returned (.int .i64 (Avl.ht t))/\w'=w:=by
 cases t with
 |nil=>obtain⟨h1,_⟩:=h;cases h1;exact c2e w
 |node a l r=>obtain⟨b,pl,pr,Fl,Fr,hp,n,c4,c5,_⟩:=h;cases hp;exact b9m b _ w c5
theorem a0J.drew{x:Avl.It}{l r:Avl.S}(h:a0J w b x l r pl pr Fl Fr):a0J w.drew b x l r pl pr Fl Fr:=h.same (Off.refl _ _).drew
theorem b9w{x:Avl.It}{l r:Avl.S}(h:a0J w b x l r pl pr Fl Fr):w.cell? ⟨b,6,none⟩=some (.pointer pl)/\w.cell? ⟨b,7,none⟩=some (.pointer pr)/\a0J w b x l r pl pr Fl Fr:=⟨h.c6,h.c7,h⟩
def b6L(w:World)(t:Avl.S):Option Addr->Prop
 |none=>Avl.isNil t=true
 |some a=>a.off=0/\a.spot=none/\Avl.isNil t=false/\w.cell? ⟨a.block,4,none⟩=some (.int .i64 (Avl.late t))
theorem a2p.b6L{t:Avl.S}(h:a2p w t (.pointer u) F):b6L w t u:=by
 cases t with
 |nil=>obtain⟨h1,_⟩:=h;cases h1;rfl
 |node a l r=>obtain⟨b,pl,pr,Fl,Fr,hp,n,c4,_⟩:=h;cases hp;exact⟨rfl,rfl,rfl,c4⟩
structure b4d(w wx:World)(b:Nat)(x:Avl.It)(l r:Avl.S)(pl pr:Option Addr)(Fl Fr:List Nat)(hh m:Int):Prop where
 half:a0J wx b x l r pl pr Fl Fr
 c4:wx.cell? ⟨b,4,none⟩=some (.int .i64 m)
 c5:wx.cell? ⟨b,5,none⟩=some (.int .i64 hh)
 off:Off [b] w wx
theorem b4d.set4{wx:World}{x:Avl.It}{l r:Avl.S}{hh m:Int}(h:b4d w wx b x l r pl pr Fl Fr hh m)(m':Int):b4d w (wx.setCell ⟨b,4,none⟩ (.int .i64 m')).drew b x l r pl pr Fl Fr hh m' :=
 ⟨(h.half.set4 m').drew,World.cell?_setCell_same _ _ _ h.c4,(zS _ _ _ _ (by simp)).trans h.c5,(h.off.setCell (.inl (by simp)) _ _).drew⟩
theorem a3y(w:World)(b:Nat)(x:Avl.It)(l r:Avl.S)(pl pr:Option Addr)(Fl Fr:List Nat)(h:a0J w b x l r pl pr Fl Fr)(hl:Avl.ht l<=100000)(hr:Avl.ht r<=100000):
  Calls Tryz.prog 285 #[.pointer (some ⟨b,0,none⟩)] w fun e w'=>e=.returned (.tuple #[])/\a2p w' (.node x l r) (.pointer (some ⟨b,0,none⟩)) (b :: (Fl++Fr))/\Off [b] w w':=by
 have h1:=Avl.a1a l;have h2:=Avl.a1a r
 have e3:IntKind.i64.wrap (1+if Avl.ht l<Avl.ht r then Avl.ht r else Avl.ht l)=1+max (Avl.ht l) (Avl.ht r):=by
  rw[c0q];exact a0i (by omega) (by omega)
 have E3:=a0b e3;clear e3;have f5:=h.n.fz 5;obtain⟨y5,c5⟩:=h.n.c5;have hw2:((w.setCell ⟨b,5,none⟩ (.int .i64 (1+max (Avl.ht l) (Avl.ht r)))).drew).cell? ⟨b,5,none⟩=some (.int .i64 (1+max (Avl.ht l) (Avl.ht r))):=zm _ _ _ c5;have hw1:=a0b (And.intro (h.set5 (1+max (Avl.ht l) (Avl.ht r))).drew (And.intro hw2 ((Off.set0 b w 5 (.int .i64 (1+max (Avl.ht l) (Avl.ht r)))).drew)));clear hw2
 go_enter Tryz.func285,Tryz.ntmps285
 go_wp2_with fail
 go_region_held3 (fun w'=>w'.cell? ⟨b,6,none⟩=some (.pointer pl)/\w'.cell? ⟨b,7,none⟩=some (.pointer pr)/\a0J w' b x l r pl pr Fl Fr)
  (first
   |exact b9w h.drew
   |exact b9w (a0J.drew (a0J.set5 h _)))
  (first
   |(go_at_call_of 282 (Value.pointer pl);go_split_ands;refine (a1o _ (a0J.l (by assumption))).mono ?_;rintro e w' ⟨rfl,rfl⟩)
   |(go_at_call_of 282 (Value.pointer pr);go_split_ands;refine (a1o _ (a0J.r (by assumption))).mono ?_;rintro e w' ⟨rfl,rfl⟩))
 rw[E3.out,a7z];obtain⟨hX,cX,oX⟩:=hw1.out;clear hw1;generalize (World.setCell _ ⟨b,5,none⟩ (.int .i64 (1+max (Avl.ht l) (Avl.ht r)))).drew=X at hX cX oX ⊢;clear h f5 c5;have c1:=hX.n.c1;have c6:=hX.c6;have c7:=hX.c7;obtain⟨y4,c4⟩:=hX.n.c4;have f4:=hX.n.fz 4;have hw2:(X.setCell ⟨b,4,none⟩ (.int .i64 x.t)).cell? ⟨b,4,none⟩=some (.int .i64 x.t):=zm _ _ _ c4;have hw3:(X.setCell ⟨b,4,none⟩ (.int .i64 x.t)).cell? ⟨b,5,none⟩=some (.int .i64 (1+max (Avl.ht l) (Avl.ht r))):=(zS _ _ _ _ (by simp)).trans cX;have hw1:=a0b (And.intro (hX.set4 x.t) (And.intro hw2 (And.intro hw3 (oX.setCell (R:=b) (.inl (by simp)) 4 (.int .i64 x.t)))));clear hw2 hw3
 go_upto_region 2 with fail
 obtain⟨hY,d4,d5,oY⟩:=hw1.out;clear hw1 c1 c6 c7 c4 f4 hX cX oX;generalize (World.setCell X ⟨b,4,none⟩ (.int .i64 x.t))=Y at hY d4 d5 oY ⊢;have d6:=hY.c6
 go_upto_if 28 with fail
 clear d6
 go_cut [28] from 24 to 43 (fun _ wx=>b4d w wx b x l r pl pr Fl Fr (1+max (Avl.ht l) (Avl.ht r)) (if Avl.isNil l then x.t else max x.t (Avl.late l)))
 case first =>
  have d6:=hY.c6;have d7:=hY.c7;have f4:=hY.n.fz 4;have la:=hY.l.b6L
  cases pl with
  |none =>
   have el:Avl.isNil l=true:=la
   go_wp2_with fail
   go_meet
   rw[if_pos el];exact⟨hY,d4,d5,oY⟩
  |some q =>
   obtain⟨bl,ol,sl⟩:=q;obtain⟨e1,e2,el,cl⟩:=la
   cases e1
   cases e2
   have cl:Y.cell? ⟨bl,4,none⟩=some (.int .i64 (Avl.late l)):=cl
   go_wp2_with fail
   go_region
   all_goals
    rw[a7z]
    go_wp2_with fail
    go_meet
    rw[if_neg (by simp[el])];exact b4d.set4 ⟨hY,d4,d5,oY⟩ _
 case rest =>
  have hZ:=hcut;clear hcut hY d4 d5 oY;have m4:=hZ.c4;have HZ:=a0b hZ;have e9:Avl.late (.node x l r)=if Avl.isNil r then (if Avl.isNil l then x.t else max x.t (Avl.late l)) else max (if Avl.isNil l then x.t else max x.t (Avl.late l)) (Avl.late r):=rfl
  have E9:=a0b e9;clear e9;generalize (if Avl.isNil l then x.t else max x.t (Avl.late l))=m at *;have d7:=hZ.half.c7;have f4:=hZ.half.n.fz 4;have ra:=hZ.half.r.b6L;clear hZ
  cases pr with
  |none =>
   have er:Avl.isNil r=true:=ra;have HK:=a0b (HZ.out.half.rep (by rw[HZ.out.c4,E9.out,if_pos er]) HZ.out.c5)
   go_wp2_with fail
   go_end0
   exact⟨rfl,HK.out,HZ.out.off⟩
  |some q =>
   obtain⟨bl,ol,sl⟩:=q;obtain⟨e1,e2,el,cl⟩:=ra
   cases e1
   cases e2
   have cl:wc.cell? ⟨bl,4,none⟩=some (.int .i64 (Avl.late r)):=cl;have HK:=a0b (HZ.out.set4 (max m (Avl.late r)));have HR:=a0b (HK.out.half.rep (by rw[HK.out.c4,E9.out,if_neg (by simp[el])]) HK.out.c5)
   go_wp2_with fail
   go_region
   all_goals
    rw[a7z]
    go_wp2_with fail
    go_end0
    exact⟨rfl,HR.out,HK.out.off⟩
def a2h(w:World)(F:List Nat)(t':Avl.S)(e:Ending)(w':World):Prop :=
 ∃ (u:Option Addr) (F':List Nat),e=.returned (.pointer u)/\a2p w' t' (.pointer u) F'/\(∀ k∈F',k∈F)/\Off F w w'
theorem b0F{a b:List Nat}(h:a.Perm b)(k:a.Nodup):b.Nodup:=h.nodup_iff.1 k
theorem b9c{x y:Avl.It}{s t r:Avl.S}(h:a0J w b x (.node y s t) r u pr Fl Fr):
  ∃ (bl:Nat) (pa pb:Option Addr) (Fa Fb:List Nat),u=some ⟨bl,0,none⟩/\Fl=bl :: (Fa++Fb)/\w.cell? ⟨bl,7,none⟩=some (.pointer pb)/\w.frozen? ⟨bl,7,none⟩=false/\b≠bl /\
   a0J ((w.setCell ⟨b,6,none⟩ (.pointer pb)).setCell ⟨bl,7,none⟩ (.pointer (some ⟨b,0,none⟩))) b x t r pb pr Fb Fr /\
   (∀ w2,a2p w2 (.node x t r) (.pointer (some ⟨b,0,none⟩)) (b :: (Fb++Fr))->Off [b] ((w.setCell ⟨b,6,none⟩ (.pointer pb)).setCell ⟨bl,7,none⟩ (.pointer (some ⟨b,0,none⟩))) w2->a0J w2 bl y s (.node x t r) pa (some ⟨b,0,none⟩) Fa (b :: (Fb++Fr))) /\
   Off (b :: (Fl++Fr)) w ((w.setCell ⟨b,6,none⟩ (.pointer pb)).setCell ⟨bl,7,none⟩ (.pointer (some ⟨b,0,none⟩))):=by
 obtain⟨bl,pa,pb,Fa,Fb,rfl,rfl,hl,_,_⟩:=h.l.half;have nd:=h.nd;have hne:b≠bl:=by rintro rfl;simp at nd
 have ndb:(b :: (Fb++Fr)).Nodup:=by
  refine List.Sublist.nodup ?_ nd;exact List.Sublist.cons_cons _ (List.Sublist.append (List.Sublist.trans (List.sublist_append_right Fa Fb) (List.sublist_cons_self _ _)) (List.Sublist.refl _))
 have o1:Off [b] w (w.setCell ⟨b,6,none⟩ (.pointer pb)):=Off.set0 ..;have o2:Off [bl] (w.setCell ⟨b,6,none⟩ (.pointer pb)) ((w.setCell ⟨b,6,none⟩ (.pointer pb)).setCell ⟨bl,7,none⟩ (.pointer (some ⟨b,0,none⟩))):=Off.set0 ..
 have hmem:∀ k,k∈Fa\/k∈Fb\/k∈Fr->k≠b/\k≠bl:=by
  intro k hk;simp only[List.nodup_cons,List.mem_append,List.mem_cons,List.cons_append,not_or] at nd;constructor
  ·rintro rfl;rcases hk with hk|hk|hk
   ·exact nd.1.2.1.1 hk
   ·exact nd.1.2.1.2 hk
   ·exact nd.1.2.2 hk
  ·rintro rfl;rcases hk with hk|hk|hk
   ·exact nd.2.1.1.1 hk
   ·exact nd.2.1.1.2 hk
   ·exact nd.2.1.2 hk
 have hh:a0J (w.setCell ⟨b,6,none⟩ (.pointer pb)) b x t r pb pr Fb Fr:=a0J.setl h.n h.c7 hl.r h.r ndb
 have hb1:a0J ((w.setCell ⟨b,6,none⟩ (.pointer pb)).setCell ⟨bl,7,none⟩ (.pointer (some ⟨b,0,none⟩))) b x t r pb pr Fb Fr :=
  hh.off o2 (by simpa using hne) (fun k hk=>by simpa using (hmem k (.inr (.inl hk))).2) (fun k hk=>by simpa using (hmem k (.inr (.inr hk))).2)
 refine⟨bl,pa,pb,Fa,Fb,rfl,rfl,hl.c7,hl.n.fz 7,hne,hb1,fun w2 k1 k2=>?_,?_⟩
 ·have n1:a2G ((w.setCell ⟨b,6,none⟩ (.pointer pb)).setCell ⟨bl,7,none⟩ (.pointer (some ⟨b,0,none⟩))) bl y:=(hl.n.off o1 (by simp;exact hne.symm)).a2w _;have c6:((w.setCell ⟨b,6,none⟩ (.pointer pb)).setCell ⟨bl,7,none⟩ (.pointer (some ⟨b,0,none⟩))).cell? ⟨bl,6,none⟩=some (.pointer pa):=(zS _ _ _ _ (by simp)).trans (o1.cell (by simp;exact hne.symm) hl.c6);have c7:((w.setCell ⟨b,6,none⟩ (.pointer pb)).setCell ⟨bl,7,none⟩ (.pointer (some ⟨b,0,none⟩))).cell? ⟨bl,7,none⟩=some (.pointer (some ⟨b,0,none⟩)):=zm _ _ _ (o1.cell (by simp;exact hne.symm) hl.c7)
  have ha:a2p ((w.setCell ⟨b,6,none⟩ (.pointer pb)).setCell ⟨bl,7,none⟩ (.pointer (some ⟨b,0,none⟩))) s (.pointer pa) Fa :=
   (hl.l.off o1 (fun k hk=>by simpa using (hmem k (.inl hk)).1)).off o2 (fun k hk=>by simpa using (hmem k (.inl hk)).2)
  have hnb:bl ∉ [b]:=by simp;exact hne.symm
  refine⟨n1.off k2 hnb,k2.cell hnb c6,k2.cell hnb c7,ha.off k2 (fun k hk=>by simpa using (hmem k (.inl hk)).1),k1,?_⟩;refine b0F ?_ nd;have p1:(b :: (bl :: (Fa++Fb)++Fr)).Perm (bl :: b :: (Fa++(Fb++Fr))):=by simpa[List.append_assoc] using List.Perm.swap bl b (Fa++(Fb++Fr))
  exact p1.trans (List.Perm.cons _ List.perm_middle.symm)
 ·exact ((Off.set0 b w 6 _).mono (by simp)).setCell (.inl (by simp)) _ _
theorem b9d{x y:Avl.It}{s t l:Avl.S}(h:a0J w b x l (.node y s t) pl u Fl Fr):
  ∃ (br:Nat) (pa pb:Option Addr) (Fa Fb:List Nat),u=some ⟨br,0,none⟩/\Fr=br :: (Fa++Fb)/\w.cell? ⟨br,6,none⟩=some (.pointer pa)/\w.frozen? ⟨br,6,none⟩=false/\b≠br /\
   a0J ((w.setCell ⟨b,7,none⟩ (.pointer pa)).setCell ⟨br,6,none⟩ (.pointer (some ⟨b,0,none⟩))) b x l s pl pa Fl Fa /\
   (∀ w2,a2p w2 (.node x l s) (.pointer (some ⟨b,0,none⟩)) (b :: (Fl++Fa))->Off [b] ((w.setCell ⟨b,7,none⟩ (.pointer pa)).setCell ⟨br,6,none⟩ (.pointer (some ⟨b,0,none⟩))) w2->a0J w2 br y (.node x l s) t (some ⟨b,0,none⟩) pb (b :: (Fl++Fa)) Fb) /\
   Off (b :: (Fl++Fr)) w ((w.setCell ⟨b,7,none⟩ (.pointer pa)).setCell ⟨br,6,none⟩ (.pointer (some ⟨b,0,none⟩))):=by
 obtain⟨br,pa,pb,Fa,Fb,rfl,rfl,hl,_,_⟩:=h.r.half;have nd:=h.nd;have hne:b≠br:=by rintro rfl;simp at nd
 have ndb:(b :: (Fl++Fa)).Nodup:=by
  refine List.Sublist.nodup ?_ nd;exact List.Sublist.cons_cons _ (List.Sublist.append (List.Sublist.refl _) (List.Sublist.trans (List.sublist_append_left Fa Fb) (List.sublist_cons_self _ _)))
 have o1:Off [b] w (w.setCell ⟨b,7,none⟩ (.pointer pa)):=Off.set0 ..;have o2:Off [br] (w.setCell ⟨b,7,none⟩ (.pointer pa)) ((w.setCell ⟨b,7,none⟩ (.pointer pa)).setCell ⟨br,6,none⟩ (.pointer (some ⟨b,0,none⟩))):=Off.set0 ..
 have hmem:∀ k,k∈Fl\/k∈Fa\/k∈Fb->k≠b/\k≠br:=by
  intro k hk;simp only[List.nodup_cons,List.nodup_append,List.mem_append,List.mem_cons,not_or] at nd;constructor
  ·rintro rfl;rcases hk with hk|hk|hk
   ·exact nd.1.1 hk
   ·exact nd.1.2.2.1 hk
   ·exact nd.1.2.2.2 hk
  ·rintro rfl;rcases hk with hk|hk|hk
   ·exact nd.2.2.2 _ hk _ (.inl rfl) rfl
   ·exact nd.2.2.1.1.1 hk
   ·exact nd.2.2.1.1.2 hk
 have hh:a0J (w.setCell ⟨b,7,none⟩ (.pointer pa)) b x l s pl pa Fl Fa:=a0J.setr h.n h.c6 h.l hl.l ndb
 have hb1:a0J ((w.setCell ⟨b,7,none⟩ (.pointer pa)).setCell ⟨br,6,none⟩ (.pointer (some ⟨b,0,none⟩))) b x l s pl pa Fl Fa :=
  hh.off o2 (by simpa using hne) (fun k hk=>by simpa using (hmem k (.inl hk)).2) (fun k hk=>by simpa using (hmem k (.inr (.inl hk))).2)
 refine⟨br,pa,pb,Fa,Fb,rfl,rfl,hl.c6,hl.n.fz 6,hne,hb1,fun w2 k1 k2=>?_,?_⟩
 ·have n1:a2G ((w.setCell ⟨b,7,none⟩ (.pointer pa)).setCell ⟨br,6,none⟩ (.pointer (some ⟨b,0,none⟩))) br y:=(hl.n.off o1 (by simp;exact hne.symm)).c5K _;have c6:((w.setCell ⟨b,7,none⟩ (.pointer pa)).setCell ⟨br,6,none⟩ (.pointer (some ⟨b,0,none⟩))).cell? ⟨br,6,none⟩=some (.pointer (some ⟨b,0,none⟩)):=zm _ _ _ (o1.cell (by simp;exact hne.symm) hl.c6);have c7:((w.setCell ⟨b,7,none⟩ (.pointer pa)).setCell ⟨br,6,none⟩ (.pointer (some ⟨b,0,none⟩))).cell? ⟨br,7,none⟩=some (.pointer pb):=(zS _ _ _ _ (by simp)).trans (o1.cell (by simp;exact hne.symm) hl.c7)
  have ha:a2p ((w.setCell ⟨b,7,none⟩ (.pointer pa)).setCell ⟨br,6,none⟩ (.pointer (some ⟨b,0,none⟩))) t (.pointer pb) Fb :=
   (hl.r.off o1 (fun k hk=>by simpa using (hmem k (.inr (.inr hk))).1)).off o2 (fun k hk=>by simpa using (hmem k (.inr (.inr hk))).2)
  have hnb:br ∉ [b]:=by simp;exact hne.symm
  refine⟨n1.off k2 hnb,k2.cell hnb c6,k2.cell hnb c7,k1,ha.off k2 (fun k hk=>by simpa using (hmem k (.inr (.inr hk))).1),?_⟩;refine b0F ?_ nd;have p1:(b :: (Fl++br :: (Fa++Fb))).Perm (b :: br :: (Fl++(Fa++Fb))):=List.Perm.cons _ List.perm_middle;refine p1.trans ((List.Perm.swap br b _).trans (List.Perm.cons _ ?_));simp[List.append_assoc]
 ·exact ((Off.set0 b w 7 _).mono (by simp)).setCell (.inl (by simp)) _ _
theorem a3q(w:World)(b:Nat)(x y:Avl.It)(s t r:Avl.S)(u pr:Option Addr)(Fl Fr:List Nat)(h:a0J w b x (.node y s t) r u pr Fl Fr)(h1:Avl.ht s<=50000)(h2:Avl.ht t<=50000)(h3:Avl.ht r<=50000):
  Calls Tryz.prog 284 #[.pointer (some ⟨b,0,none⟩)] w (a2h w (b :: (Fl++Fr)) (.node y s (.node x t r))):=by
 obtain⟨bl,pa,pb,Fa,Fb,rfl,rfl,c7,f7,hne,g1,g2,g3⟩:=b9c h;have c6:=h.c6;have f6:=h.n.fz 6;have hht:Avl.ht (.node x t r)<=100000:=by simp only[Avl.ht];omega
 have G:=a0b (And.intro g1 (And.intro g2 g3));clear g1 g2 g3 h
 go_enter Tryz.func284,Tryz.ntmps284
 go_wp2_with fail
 refine (a3y _ b x t r pb pr Fb Fr G.out.1 (by omega) (by omega)).mono ?_;rintro e w2 ⟨rfl,k1,k2⟩;have K:=a0b (And.intro (G.out.2.1 w2 k1 k2) (G.out.2.2.trans' k2 (fun z hz=>by simp at hz;subst hz;exact .inl (by simp))));clear k1 k2 G c7 c6 f7 f6
 go_wp2_with fail
 refine (a3y _ bl y s (.node x t r) pa (some ⟨b,0,none⟩) Fa (b :: (Fb++Fr)) K.out.1 (by omega) hht).mono ?_;rintro e w3 ⟨rfl,k1,k2⟩;have M:=a0b (And.intro k1 (K.out.2.trans' k2 (fun z hz=>by simp at hz;subst hz;exact .inl (by simp))));clear k1 k2 K
 go_wp2_with fail
 go_ret;exact⟨_,_,rfl,M.out.1,(by intro k hk;simp only[List.mem_cons,List.mem_append] at hk ⊢;grind),M.out.2⟩
theorem a3P(w:World)(b:Nat)(x y:Avl.It)(s t l:Avl.S)(u pl:Option Addr)(Fl Fr:List Nat)(h:a0J w b x l (.node y s t) pl u Fl Fr)(h1:Avl.ht s<=50000)(h2:Avl.ht t<=50000)(h3:Avl.ht l<=50000):
  Calls Tryz.prog 283 #[.pointer (some ⟨b,0,none⟩)] w (a2h w (b :: (Fl++Fr)) (.node y (.node x l s) t)):=by
 obtain⟨br,pa,pb,Fa,Fb,rfl,rfl,c6,f6,hne,g1,g2,g3⟩:=b9d h;have c7:=h.c7;have f7:=h.n.fz 7;have hht:Avl.ht (.node x l s)<=100000:=by simp only[Avl.ht];omega
 have G:=a0b (And.intro g1 (And.intro g2 g3));clear g1 g2 g3 h
 go_enter Tryz.func283,Tryz.ntmps283
 go_wp2_with fail
 refine (a3y _ b x l s pl pa Fl Fa G.out.1 (by omega) (by omega)).mono ?_;rintro e w2 ⟨rfl,k1,k2⟩;have K:=a0b (And.intro (G.out.2.1 w2 k1 k2) (G.out.2.2.trans' k2 (fun z hz=>by simp at hz;subst hz;exact .inl (by simp))));clear k1 k2 G c7 c6 f7 f6
 go_wp2_with fail
 refine (a3y _ br y (.node x l s) t (some ⟨b,0,none⟩) pb (b :: (Fl++Fa)) Fb K.out.1 hht (by omega)).mono ?_;rintro e w3 ⟨rfl,k1,k2⟩;have M:=a0b (And.intro k1 (K.out.2.trans' k2 (fun z hz=>by simp at hz;subst hz;exact .inl (by simp))));clear k1 k2 K
 go_wp2_with fail
 go_ret;exact⟨_,_,rfl,M.out.1,(by intro k hk;simp only[List.mem_cons,List.mem_append] at hk ⊢;grind),M.out.2⟩
theorem a0J.newl{x:Avl.It}{l r l':Avl.S}(h:a0J w b x l r pl pr Fl Fr)(k1:a2p w2 l' (.pointer u) F')(k2:∀ k∈F',k∈Fl\/w.heap.size<=k)(k3:Off Fl w w2):
  a0J (w2.setCell ⟨b,6,none⟩ (.pointer u)) b x l' r u pr F' Fr/\(∀ k∈b :: (F'++Fr),k∈b :: (Fl++Fr)\/w.heap.size<=k)/\Off (b :: (Fl++Fr)) w (w2.setCell ⟨b,6,none⟩ (.pointer u)):=by
 obtain⟨n1,n2,n3,n4,n5,n6,n7,n8⟩:=h.parts;have hlt:=h.lt;refine⟨a0J.setl (h.n.off k3 n1) (k3.cell n1 h.c7) k1 (h.r.off k3 n5) ?_,fun k hk=>?_,?_⟩
 ·refine List.nodup_cons.2 ⟨fun e=>?_,List.nodup_append.2 ⟨k1.nodup,n8,fun y hy z hz e=>?_⟩⟩
  ·rcases List.mem_append.1 e with e|e
   ·rcases k2 b e with e|e
    ·exact n1 e
    ·have:=hlt b (by simp);omega
   ·exact n2 e
  ·subst e;rcases k2 y hy with e|e
   ·exact n5 y hz e
   ·have:=hlt y (by simp[hz]);omega
 ·rcases List.mem_cons.1 hk with rfl|hk
  ·exact .inl (by simp)
  ·rcases List.mem_append.1 hk with hk|hk
   ·rcases k2 k hk with e|e
    ·exact .inl (by simp[e])
    ·exact .inr e
   ·exact .inl (by simp[hk])
 ·exact (k3.mono (by intro y hy;simp[hy])).setCell (.inl (by simp)) _ _
theorem a0J.newr{x:Avl.It}{l r r':Avl.S}(h:a0J w b x l r pl pr Fl Fr)(k1:a2p w2 r' (.pointer u) F')(k2:∀ k∈F',k∈Fr\/w.heap.size<=k)(k3:Off Fr w w2):
  a0J (w2.setCell ⟨b,7,none⟩ (.pointer u)) b x l r' pl u Fl F'/\(∀ k∈b :: (Fl++F'),k∈b :: (Fl++Fr)\/w.heap.size<=k)/\Off (b :: (Fl++Fr)) w (w2.setCell ⟨b,7,none⟩ (.pointer u)):=by
 obtain⟨n1,n2,n3,n4,n5,n6,n7,n8⟩:=h.parts;have hlt:=h.lt;refine⟨a0J.setr (h.n.off k3 n2) (k3.cell n2 h.c6) (h.l.off k3 n6) k1 ?_,fun k hk=>?_,?_⟩
 ·refine List.nodup_cons.2 ⟨fun e=>?_,List.nodup_append.2 ⟨n7,k1.nodup,fun y hy z hz e=>?_⟩⟩
  ·rcases List.mem_append.1 e with e|e
   ·exact n1 e
   ·rcases k2 b e with e|e
    ·exact n2 e
    ·have:=hlt b (by simp);omega
  ·subst e;rcases k2 y hz with e|e
   ·exact n6 y hy e
   ·have:=hlt y (by simp[hy]);omega
 ·rcases List.mem_cons.1 hk with rfl|hk
  ·exact .inl (by simp)
  ·rcases List.mem_append.1 hk with hk|hk
   ·exact .inl (by simp[hk])
   ·rcases k2 k hk with e|e
    ·exact .inl (by simp[e])
    ·exact .inr e
 ·exact (k3.mono (by intro y hy;simp[hy])).setCell (.inl (by simp)) _ _
theorem a2h.of{t:Avl.S}{e:Ending}(h:a2h w1 G t e w')(k:Off F w w1)(hG:∀ k∈G,k∈F):a2h w F t e w':=by
 obtain⟨u,F',rfl,h1,h2,h3⟩:=h;exact⟨u,F',rfl,h1,fun k hk=>hG k (h2 k hk),k.trans' h3 (fun x hx=>.inl (hG x hx))⟩
theorem b3S(w:World)(b:Nat)(x:Avl.It)(l r:Avl.S)(pl pr:Option Addr)(Fl Fr:List Nat)(h:a0J w b x l r pl pr Fl Fr)(hl:Avl.ht l<=40000)(hr:Avl.ht r<=40000)(h1:¬ 1<Avl.ht l-Avl.ht r)(h2:¬ Avl.ht l-Avl.ht r < -1):
  Calls Tryz.prog 262 #[.pointer (some ⟨b,0,none⟩)] w (a2h w (b :: (Fl++Fr)) (.node x l r)):=by
 have g1:=Avl.a1a l;have g2:=Avl.a1a r;have hwr:IntKind.i64.wrap (Avl.ht l-Avl.ht r)=Avl.ht l-Avl.ht r:=a0i (by omega) (by omega)
 go_enter Tryz.func262,Tryz.ntmps262
 go_upto_region 1 with fail
 go_region_held3 (fun w'=>w'.cell? ⟨b,6,none⟩=some (.pointer pl)/\w'.cell? ⟨b,7,none⟩=some (.pointer pr)/\a0J w' b x l r pl pr Fl Fr)
  (exact b9w h.drew)
  (first
   |(go_at_call_of 282 (Value.pointer pl);go_split_ands;refine (a1o _ (a0J.l (by assumption))).mono ?_;rintro e w' ⟨rfl,rfl⟩)
   |(go_at_call_of 282 (Value.pointer pr);go_split_ands;refine (a1o _ (a0J.r (by assumption))).mono ?_;rintro e w' ⟨rfl,rfl⟩))
 have H:=a0b h.drew;have HO:=a0b ((Off.refl (b :: (Fl++Fr)) _).drew:Off _ w w.drew);clear h
 go_wp2_with fail
 refine (a3y _ b x l r pl pr Fl Fr H.out (by omega) (by omega)).mono ?_;rintro e w2 ⟨rfl,k1,k2⟩;have K:=a0b (And.intro k1 (HO.out.trans' k2 (fun z hz=>by simp at hz;subst hz;exact .inl (by simp))));clear k1 k2 H HO
 go_wp2_with fail
 go_ret;exact⟨_,_,rfl,K.out.1,fun _ hk=>hk,K.out.2⟩
theorem b8Q(w:World)(b:Nat)(x y:Avl.It)(s t:Avl.S)(r:Avl.S)(u pr:Option Addr)(Fl Fr:List Nat)(h:a0J w b x (.node y s t) r u pr Fl Fr)(hs:Avl.ht s<=40000)(ht:Avl.ht t<=40000)(ho:Avl.ht r<=40000)(h1:1<Avl.ht (.node y s t)-Avl.ht r):
  Calls Tryz.prog 262 #[.pointer (some ⟨b,0,none⟩)] w (a2h w (b :: (Fl++Fr)) (Avl.c4k x (.node y s t) r)):=by
 have g0:=Avl.a1a s;have g1:=Avl.a1a t;have g2:=Avl.a1a r;have g3:Avl.ht (.node y s t)=1+max (Avl.ht s) (Avl.ht t):=rfl;obtain⟨bl,ps,pt,Fs,Ft,rfl,rfl,hh,_,_⟩:=h.l.half;have RB:=a0b (fun w' (k:Off [] w w')=>And.intro (h.same k) (hh.same k));have TB:=a0b (fun w' (k:Off [] w w')=>a1o w' (h.same k).l);generalize Avl.ht (.node y s t)=hty at *;have hwr:IntKind.i64.wrap (hty-Avl.ht r)=hty-Avl.ht r:=a0i (by omega) (by omega);clear g3
 by_cases hc:Avl.ht s<Avl.ht t
 ·have eb:Avl.c4k x (.node y s t) r=Avl.c4N (.node x (Avl.c4O (.node y s t)) r):=by unfold Avl.c4k;rw[if_pos (by simpa[Avl.left,Avl.right] using hc)]
  rw[eb];obtain⟨z,t1,t2,rfl⟩:=Avl.a5B (t:=t) (by omega);have gz:Avl.ht (.node z t1 t2)=1+max (Avl.ht t1) (Avl.ht t2):=rfl;have g4:=Avl.a1a t1;have g5:=Avl.a1a t2;have q1:Avl.ht t1<=40000:=by omega
  have q2:Avl.ht t2<=40000:=by omega
  have TT:=a0b (fun w' (k:Off [] w w')=>a1o w' (hh.same k).r);have TS:=a0b (fun w' (k:Off [] w w')=>a1o w' (hh.same k).l);generalize Avl.ht (.node z t1 t2)=htt at *;clear gz g4 g5 h hh eb
  go_enter Tryz.func262,Tryz.ntmps262
  go_upto_region 1 with fail
  have c6:=(RB.out w.drew (Off.refl _ _).drew).1.c6;have c7:=(RB.out w.drew (Off.refl _ _).drew).1.c7
  go_region_held3 (fun w'=>w'.cell? ⟨b,6,none⟩=some (.pointer (some ⟨bl,0,none⟩))/\w'.cell? ⟨b,7,none⟩=some (.pointer pr)/\w'=w.drew)
   (exact⟨c6,c7,rfl⟩)
   (first
    |(go_at_call_of 282 (Value.pointer (some (Addr.mk bl 0 none)));go_split_ands;refine (TB.out _ (Off.refl _ _).drew).mono ?_;rintro e w' ⟨rfl,rfl⟩)
    |(go_at_call_of 282 (Value.pointer pr);go_split_ands;refine (a1o _ (RB.out _ (Off.refl _ _).drew).1.r).mono ?_;rintro e w' ⟨rfl,rfl⟩))
  go_upto_region 3 with fail
  have d6:=(RB.out w.drew.drew (Off.refl _ _).drew.drew).1.c6;have e6:=(RB.out w.drew.drew (Off.refl _ _).drew.drew).2.c6;have e7:=(RB.out w.drew.drew (Off.refl _ _).drew.drew).2.c7
  go_region_held3 (fun w'=>w'.cell? ⟨b,6,none⟩=some (.pointer (some ⟨bl,0,none⟩))/\w'.cell? ⟨bl,6,none⟩=some (.pointer ps)/\w'.cell? ⟨bl,7,none⟩=some (.pointer pt)/\w'=w.drew.drew)
   (exact⟨d6,e6,e7,rfl⟩)
   (first
    |(go_at_call_of 282 (Value.pointer ps);go_split_ands;refine (TS.out _ (Off.refl _ _).drew.drew).mono ?_;rintro e w' ⟨rfl,rfl⟩)
    |(go_at_call_of 282 (Value.pointer pt);go_split_ands;refine (TT.out _ (Off.refl _ _).drew.drew).mono ?_;rintro e w' ⟨rfl,rfl⟩))
  have HW:=RB.out w.drew.drew (Off.refl _ _).drew.drew;have OW:=a0b ((Off.refl (b :: ((bl :: (Fs++Ft))++Fr)) _).drew.drew:Off _ w w.drew.drew);have HWH:=a0b HW;clear HW RB TB TS TT
  go_wp2_with fail
  have HW:=HWH.out;clear HWH;refine (a3P _ bl y z t1 t2 s _ _ _ _ HW.2 (by omega) (by omega) (by omega)).mono ?_;rintro e w2 ⟨u2,F2,rfl,k1,k2,k3⟩;obtain⟨m1,m2,m3⟩:=HW.1.newl k1 (fun k hk=>.inl (k2 k hk)) k3;have c6:=k3.cell (o:=6) HW.1.parts.1 HW.1.c6;have f6:=(k3.frozen (o:=6) HW.1.parts.1 HW.1.n.lt).trans (HW.1.n.fz 6);have M:=a0b (And.intro m1 (And.intro k2 (OW.out.trans m3)));clear m1 m2 m3 k1 k2 k3 HW
  go_wp2_with fail
  refine (a3q _ b x z (.node y s t1) t2 r _ _ _ _ M.out.1 (by simp only[Avl.ht];omega) (by omega) (by omega)).mono ?_;rintro e w3 hk;have HK:=a0b (hk.of M.out.2.2 (by intro k hk;have:=M.out.2.1;simp only[List.mem_cons,List.mem_append] at *;grind));obtain⟨u3,F3,rfl,k1,k2,k3⟩:=hk;clear k1 k2 k3 M c6 f6
  go_wp2_with fail
  go_ret;exact HK.out
 ·have eb:Avl.c4k x (.node y s t) r=Avl.c4N (.node x (.node y s t) r):=by unfold Avl.c4k;rw[if_neg (by simpa[Avl.left,Avl.right] using hc)]
  rw[eb];have TT:=a0b (fun w' (k:Off [] w w')=>a1o w' (hh.same k).r);have TS:=a0b (fun w' (k:Off [] w w')=>a1o w' (hh.same k).l);generalize hhtt:Avl.ht t=htt at *;clear h hh eb
  go_enter Tryz.func262,Tryz.ntmps262
  go_upto_region 1 with fail
  have c6:=(RB.out w.drew (Off.refl _ _).drew).1.c6;have c7:=(RB.out w.drew (Off.refl _ _).drew).1.c7
  go_region_held3 (fun w'=>w'.cell? ⟨b,6,none⟩=some (.pointer (some ⟨bl,0,none⟩))/\w'.cell? ⟨b,7,none⟩=some (.pointer pr)/\w'=w.drew)
   (exact⟨c6,c7,rfl⟩)
   (first
    |(go_at_call_of 282 (Value.pointer (some (Addr.mk bl 0 none)));go_split_ands;refine (TB.out _ (Off.refl _ _).drew).mono ?_;rintro e w' ⟨rfl,rfl⟩)
    |(go_at_call_of 282 (Value.pointer pr);go_split_ands;refine (a1o _ (RB.out _ (Off.refl _ _).drew).1.r).mono ?_;rintro e w' ⟨rfl,rfl⟩))
  go_upto_region 3 with fail
  have d6:=(RB.out w.drew.drew (Off.refl _ _).drew.drew).1.c6;have e6:=(RB.out w.drew.drew (Off.refl _ _).drew.drew).2.c6;have e7:=(RB.out w.drew.drew (Off.refl _ _).drew.drew).2.c7
  go_region_held3 (fun w'=>w'.cell? ⟨b,6,none⟩=some (.pointer (some ⟨bl,0,none⟩))/\w'.cell? ⟨bl,6,none⟩=some (.pointer ps)/\w'.cell? ⟨bl,7,none⟩=some (.pointer pt)/\w'=w.drew.drew)
   (exact⟨d6,e6,e7,rfl⟩)
   (first
    |(go_at_call_of 282 (Value.pointer ps);go_split_ands;refine (TS.out _ (Off.refl _ _).drew.drew).mono ?_;rintro e w' ⟨rfl,rfl⟩)
    |(go_at_call_of 282 (Value.pointer pt);go_split_ands;refine (TT.out _ (Off.refl _ _).drew.drew).mono ?_;rintro e w' ⟨rfl,rfl⟩))
  have HW:=RB.out w.drew.drew (Off.refl _ _).drew.drew;have OW:=a0b ((Off.refl (b :: ((bl :: (Fs++Ft))++Fr)) _).drew.drew:Off _ w w.drew.drew);have HWH:=a0b HW;clear HW RB TB TS TT
  go_wp2_with fail
  have HW:=HWH.out;clear HWH;refine (a3q _ b x y s t r _ _ _ _ HW.1 (by omega) (by omega) (by omega)).mono ?_;rintro e w3 hk;have HK:=a0b (hk.of OW.out (fun _ hk=>hk));obtain⟨u3,F3,rfl,k1,k2,k3⟩:=hk;clear k1 k2 k3
  go_wp2_with fail
  go_ret;exact HK.out
theorem b8P(w:World)(b:Nat)(x y:Avl.It)(s t:Avl.S)(l:Avl.S)(u pl:Option Addr)(Fl Fr:List Nat)(h:a0J w b x l (.node y s t) pl u Fl Fr)(hs:Avl.ht s<=40000)(ht:Avl.ht t<=40000)(ho:Avl.ht l<=40000)(h1:Avl.ht l-Avl.ht (.node y s t) < -1):
  Calls Tryz.prog 262 #[.pointer (some ⟨b,0,none⟩)] w (a2h w (b :: (Fl++Fr)) (Avl.c4j x l (.node y s t))):=by
 have g0:=Avl.a1a s;have g1:=Avl.a1a t;have g2:=Avl.a1a l;have g3:Avl.ht (.node y s t)=1+max (Avl.ht s) (Avl.ht t):=rfl;obtain⟨bl,ps,pt,Fs,Ft,rfl,rfl,hh,_,_⟩:=h.r.half;have RB:=a0b (fun w' (k:Off [] w w')=>And.intro (h.same k) (hh.same k));have TB:=a0b (fun w' (k:Off [] w w')=>a1o w' (h.same k).r);generalize Avl.ht (.node y s t)=hty at *;have hwr:IntKind.i64.wrap (Avl.ht l-hty)=Avl.ht l-hty:=a0i (by omega) (by omega);have nx:¬ 1<Avl.ht l-hty:=by omega
 clear g3
 by_cases hc:Avl.ht t<Avl.ht s
 ·have eb:Avl.c4j x l (.node y s t)=Avl.c4O (.node x l (Avl.c4N (.node y s t))):=by unfold Avl.c4j;rw[if_pos (by simpa[Avl.left,Avl.right] using hc)]
  rw[eb];obtain⟨z,t1,t2,rfl⟩:=Avl.a5B (t:=s) (by omega);have gz:Avl.ht (.node z t1 t2)=1+max (Avl.ht t1) (Avl.ht t2):=rfl;have g4:=Avl.a1a t1;have g5:=Avl.a1a t2;have q1:Avl.ht t1<=40000:=by omega
  have q2:Avl.ht t2<=40000:=by omega
  have TT:=a0b (fun w' (k:Off [] w w')=>a1o w' (hh.same k).r);have TS:=a0b (fun w' (k:Off [] w w')=>a1o w' (hh.same k).l);generalize Avl.ht (.node z t1 t2)=hts at *;clear gz g4 g5 h hh eb
  go_enter Tryz.func262,Tryz.ntmps262
  go_upto_region 1 with fail
  have c6:=(RB.out w.drew (Off.refl _ _).drew).1.c6;have c7:=(RB.out w.drew (Off.refl _ _).drew).1.c7
  go_region_held3 (fun w'=>w'.cell? ⟨b,6,none⟩=some (.pointer pl)/\w'.cell? ⟨b,7,none⟩=some (.pointer (some ⟨bl,0,none⟩))/\w'=w.drew)
   (exact⟨c6,c7,rfl⟩)
   (first
    |(go_at_call_of 282 (Value.pointer (some (Addr.mk bl 0 none)));go_split_ands;refine (TB.out _ (Off.refl _ _).drew).mono ?_;rintro e w' ⟨rfl,rfl⟩)
    |(go_at_call_of 282 (Value.pointer pl);go_split_ands;refine (a1o _ (RB.out _ (Off.refl _ _).drew).1.l).mono ?_;rintro e w' ⟨rfl,rfl⟩))
  go_upto_region 7 with fail
  have d6:=(RB.out w.drew.drew (Off.refl _ _).drew.drew).1.c7;have e6:=(RB.out w.drew.drew (Off.refl _ _).drew.drew).2.c6;have e7:=(RB.out w.drew.drew (Off.refl _ _).drew.drew).2.c7
  go_region_held3 (fun w'=>w'.cell? ⟨b,7,none⟩=some (.pointer (some ⟨bl,0,none⟩))/\w'.cell? ⟨bl,6,none⟩=some (.pointer ps)/\w'.cell? ⟨bl,7,none⟩=some (.pointer pt)/\w'=w.drew.drew)
   (exact⟨d6,e6,e7,rfl⟩)
   (first
    |(go_at_call_of 282 (Value.pointer ps);go_split_ands;refine (TS.out _ (Off.refl _ _).drew.drew).mono ?_;rintro e w' ⟨rfl,rfl⟩)
    |(go_at_call_of 282 (Value.pointer pt);go_split_ands;refine (TT.out _ (Off.refl _ _).drew.drew).mono ?_;rintro e w' ⟨rfl,rfl⟩))
  have HW:=RB.out w.drew.drew (Off.refl _ _).drew.drew;have OW:=a0b ((Off.refl (b :: (Fl++(bl :: (Fs++Ft)))) _).drew.drew:Off _ w w.drew.drew);have HWH:=a0b HW;clear HW RB TB TS TT
  go_wp2_with fail
  have HW:=HWH.out;clear HWH;refine (a3q _ bl y z t1 t2 t _ _ _ _ HW.2 (by omega) (by omega) (by omega)).mono ?_;rintro e w2 ⟨u2,F2,rfl,k1,k2,k3⟩;obtain⟨m1,m2,m3⟩:=HW.1.newr k1 (fun k hk=>.inl (k2 k hk)) k3;have c6:=k3.cell (o:=7) HW.1.parts.2.1 HW.1.c7;have f6:=(k3.frozen (o:=7) HW.1.parts.2.1 HW.1.n.lt).trans (HW.1.n.fz 7);have M:=a0b (And.intro m1 (And.intro k2 (OW.out.trans m3)));clear m1 m2 m3 k1 k2 k3 HW
  go_wp2_with fail
  refine (a3P _ b x z t1 (.node y t2 t) l _ _ _ _ M.out.1 (by omega) (by simp only[Avl.ht];omega) (by omega)).mono ?_;rintro e w3 hk;have HK:=a0b (hk.of M.out.2.2 (by intro k hk;have:=M.out.2.1;simp only[List.mem_cons,List.mem_append] at *;grind));obtain⟨u3,F3,rfl,k1,k2,k3⟩:=hk;clear k1 k2 k3 M c6 f6
  go_wp2_with fail
  go_ret;exact HK.out
 ·have eb:Avl.c4j x l (.node y s t)=Avl.c4O (.node x l (.node y s t)):=by unfold Avl.c4j;rw[if_neg (by simpa[Avl.left,Avl.right] using hc)]
  rw[eb];have TT:=a0b (fun w' (k:Off [] w w')=>a1o w' (hh.same k).r);have TS:=a0b (fun w' (k:Off [] w w')=>a1o w' (hh.same k).l);clear h hh eb
  go_enter Tryz.func262,Tryz.ntmps262
  go_upto_region 1 with fail
  have c6:=(RB.out w.drew (Off.refl _ _).drew).1.c6;have c7:=(RB.out w.drew (Off.refl _ _).drew).1.c7
  go_region_held3 (fun w'=>w'.cell? ⟨b,6,none⟩=some (.pointer pl)/\w'.cell? ⟨b,7,none⟩=some (.pointer (some ⟨bl,0,none⟩))/\w'=w.drew)
   (exact⟨c6,c7,rfl⟩)
   (first
    |(go_at_call_of 282 (Value.pointer (some (Addr.mk bl 0 none)));go_split_ands;refine (TB.out _ (Off.refl _ _).drew).mono ?_;rintro e w' ⟨rfl,rfl⟩)
    |(go_at_call_of 282 (Value.pointer pl);go_split_ands;refine (a1o _ (RB.out _ (Off.refl _ _).drew).1.l).mono ?_;rintro e w' ⟨rfl,rfl⟩))
  go_upto_region 7 with fail
  have d6:=(RB.out w.drew.drew (Off.refl _ _).drew.drew).1.c7;have e6:=(RB.out w.drew.drew (Off.refl _ _).drew.drew).2.c6;have e7:=(RB.out w.drew.drew (Off.refl _ _).drew.drew).2.c7
  go_region_held3 (fun w'=>w'.cell? ⟨b,7,none⟩=some (.pointer (some ⟨bl,0,none⟩))/\w'.cell? ⟨bl,6,none⟩=some (.pointer ps)/\w'.cell? ⟨bl,7,none⟩=some (.pointer pt)/\w'=w.drew.drew)
   (exact⟨d6,e6,e7,rfl⟩)
   (first
    |(go_at_call_of 282 (Value.pointer ps);go_split_ands;refine (TS.out _ (Off.refl _ _).drew.drew).mono ?_;rintro e w' ⟨rfl,rfl⟩)
    |(go_at_call_of 282 (Value.pointer pt);go_split_ands;refine (TT.out _ (Off.refl _ _).drew.drew).mono ?_;rintro e w' ⟨rfl,rfl⟩))
  have HW:=RB.out w.drew.drew (Off.refl _ _).drew.drew;have OW:=a0b ((Off.refl (b :: (Fl++(bl :: (Fs++Ft)))) _).drew.drew:Off _ w w.drew.drew);have HWH:=a0b HW;clear HW RB TB TS TT
  go_wp2_with fail
  have HW:=HWH.out;clear HWH;refine (a3P _ b x y s t l _ _ _ _ HW.1 (by omega) (by omega) (by omega)).mono ?_;rintro e w3 hk;have HK:=a0b (hk.of OW.out (fun _ hk=>hk));obtain⟨u3,F3,rfl,k1,k2,k3⟩:=hk;clear k1 k2 k3
  go_wp2_with fail
  go_ret;exact HK.out
theorem a1W(w:World)(b:Nat)(x:Avl.It)(l r:Avl.S)(pl pr:Option Addr)(Fl Fr:List Nat)(h:a0J w b x l r pl pr Fl Fr)(hl:Avl.ht l<=30000)(hr:Avl.ht r<=30000):
  Calls Tryz.prog 262 #[.pointer (some ⟨b,0,none⟩)] w (a2h w (b :: (Fl++Fr)) (Avl.bal x l r)):=by
 have g1:=Avl.a1a l;have g2:=Avl.a1a r
 by_cases h1:1<Avl.ht l-Avl.ht r
 ·have e:Avl.bal x l r=Avl.c4k x l r:=by unfold Avl.bal;rw[if_pos h1]
  rw[e];obtain⟨y,s,t,rfl⟩:=Avl.a5B (t:=l) (by omega);have g3:Avl.ht (.node y s t)=1+max (Avl.ht s) (Avl.ht t):=rfl;exact b8Q w b x y s t r pl pr Fl Fr h (by omega) (by omega) (by omega) h1
 ·by_cases h2:Avl.ht l-Avl.ht r < -1
  ·have e:Avl.bal x l r=Avl.c4j x l r:=by unfold Avl.bal;rw[if_neg h1,if_pos h2]
   rw[e];obtain⟨y,s,t,rfl⟩:=Avl.a5B (t:=r) (by omega);have g3:Avl.ht (.node y s t)=1+max (Avl.ht s) (Avl.ht t):=rfl;exact b8P w b x y s t l pr pl Fl Fr h (by omega) (by omega) (by omega) h2
  ·have e:Avl.bal x l r=.node x l r:=by unfold Avl.bal;rw[if_neg h1,if_neg h2]
   rw[e];exact b3S w b x l r pl pr Fl Fr h (by omega) (by omega) h1 h2
def b5t(a b:Int):Int:=if a<b then -1 else if b<a then 1 else 0
theorem a9m(a:Int)(w:World):Calls Tryz.prog 279 #[.int .i64 a] w fun e w'=>e=.returned (.bool false)/\w'=w:=by
 go_enter Tryz.func279,Tryz.ntmps279
 go_wp2;go_ret;exact⟨a2C (by simp),rfl⟩
theorem a4C(a b:Int)(w:World):Calls Tryz.prog 251 #[.int .i64 a,.int .i64 b] w fun e w'=>e=.returned (.int .i64 (b5t a b))/\w'=w:=by
 by_cases h1:a<b
 ·go_enter Tryz.func251,Tryz.ntmps251
  go_wp2_with (go_at_call 279;refine (a9m _ _).mono ?_;rintro e w' ⟨rfl,rfl⟩)
  go_ret;exact⟨a1L (by simp[b5t,h1]),rfl⟩
 ·by_cases h2:b<a
  ·go_enter Tryz.func251,Tryz.ntmps251
   go_wp2_with (go_at_call 279;refine (a9m _ _).mono ?_;rintro e w' ⟨rfl,rfl⟩)
   go_ret;exact⟨a1L (by rw[b5t,if_neg (by omega),if_pos (by omega)]),rfl⟩
  ·go_enter Tryz.func251,Tryz.ntmps251
   go_wp2_with (go_at_call 279;refine (a9m _ _).mono ?_;rintro e w' ⟨rfl,rfl⟩)
   go_ret;exact⟨a1L (by rw[b5t,if_neg (by omega),if_neg (by omega)]),rfl⟩
def orI(x y:Int):Int:=if x=0 then y else x
theorem c4n(A:Nat)(x y:Int)(w:World)(c0:w.cell? ⟨A,0,none⟩=some (.int .i64 x))(c1:w.cell? ⟨A,1,none⟩=some (.int .i64 y)):
  Calls Tryz.prog 250 #[.slice (some ⟨A,0,none⟩) 2 2] w fun e w'=>e=.returned (.int .i64 (orI x y))/\w'=w:=by
 go_enter Tryz.func250,Tryz.ntmps250
 go_wp2
 go_loop [5,8] (fun _ i=>i=.int .i64 0\/(x=0/\i=.int .i64 1)\/(x=0/\y=0/\i=.int .i64 2)) (fun _ i=>2-(intOf i).toNat)
 case atStart=>exact .inl rfl
 case round =>
  rcases hrel with rfl|⟨hx,rfl⟩|⟨hx,hy,rfl⟩
  ·by_cases hx:x=0
   ·subst hx;go_wp2
    go_round
    case rel=>simp
    case measure=>simp[intOf]
   ·have hx':(x != 0)=true:=by simpa using hx
    go_wp2;go_ret;exact⟨a1L (by rw[orI,if_neg hx]),rfl⟩
  ·subst hx
   by_cases hy:y=0
   ·subst hy;go_wp2
    go_round
    case rel=>simp
    case measure=>simp[intOf]
   ·have hy':(y != 0)=true:=by simpa using hy
    go_wp2;go_ret;exact⟨a1L (by rw[orI,if_pos rfl]),rfl⟩
  ·subst hx;subst hy;go_wp2;go_ret;exact⟨a1L (by simp[orI]),rfl⟩
theorem c4D(f n:Int)(x:Avl.It):orI (b5t f x.f) (b5t n x.n)=Avl.side f n x:=by
 unfold orI b5t Avl.side
 by_cases h1:f<x.f
 ·simp[h1]
 ·by_cases h2:x.f<f
  ·simp[h1,h2]
  ·simp[h1,h2]
theorem a9L(b:Nat)(x:Avl.It)(f n:Int)(w:World)(h:a2G w b x):
  Calls Tryz.prog 263 #[.pointer (some ⟨b,0,none⟩),.int .i64 f,.int .i64 n] w fun e w'=>e=.returned (.int .i64 (Avl.side f n x))/\Below w.heap.size w w':=by
 have c0:=h.c0;have c2:=h.c2;rw[<- c4D];have HP:=a0b (fun w'=>a4C f x.f w');have HQ:=a0b (fun w'=>a4C n x.n w');generalize b5t f x.f=p at *;generalize b5t n x.n=q at *;clear h
 go_enter Tryz.func263,Tryz.ntmps263
 go_upto_region 1 with fail
 go_region_held3 (fun w'=>w'.cell? ⟨b,0,none⟩=some (.int .i64 x.f)/\w'.cell? ⟨b,2,none⟩=some (.int .i64 x.n)/\Below w.heap.size w w')
  (first
   |exact⟨c0,c2,a0q _⟩
   |(go_split_ands;refine⟨?_,?_,?_⟩ <;> assumption)
   |(go_split_ands;exact⟨a0a ((zr _ _).alloc (zq _) _) (by assumption),a0a ((zr _ _).alloc (zq _) _) (by assumption),a0j (by assumption) ((zr _ _).alloc (zq _) _) (zq _)⟩))
  (first
   |(go_at_call_of 251 (Value.int .i64 f);refine (HP.out _).mono ?_;rintro e w' ⟨rfl,rfl⟩)
   |(go_at_call_of 251 (Value.int .i64 n);refine (HQ.out _).mono ?_;rintro e w' ⟨rfl,rfl⟩)
   |(go_at_call 250;refine (c4n _ p q _ (by simp) (by simp)).mono ?_;rintro e w' ⟨rfl,rfl⟩))
 all_goals
  have HF:Hid (Below w.heap.size w (World.drew (World.alloc w (.cells #[.int .i64 p,.int .i64 q] 3)))):=((zr _ _).alloc (zq _) _).drew
  go_wp2_with fail
  go_ret;exact⟨rfl,HF.out⟩
end Go.Proofs.YtfigmlfdnickmaaGreatDoor
