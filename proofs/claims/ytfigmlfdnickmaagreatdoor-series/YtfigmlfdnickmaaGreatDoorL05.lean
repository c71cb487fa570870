import Derived.Test.YtfigmlfdnickmaaGreatDoorL04
import Derived.OwnWalk
import Derived.Deep.AppendLies
import Derived.Deep.CutRange
import Derived.Deep.RegionLaw
set_option maxRecDepth 100000
set_option maxHeartbeats 8000000
variable{given now:Int}{ts:List (ByteArray × Int)}{L:List (Int × Int)}{F G:List Nat}{B E H b cap d e i n o:Nat}{a:Option Go.Addr}{v:Go.Value}{w w' w1 w2:Go.World}
namespace Go.Proofs.YtfigmlfdnickmaaGreatDoor
open Go.RowKit
namespace Desk
structure Ent where
 id:Int
 kind:Int
 a0k:ByteArray
 a0c:Int
 a0e:List (Int × Int)
 a0Z:Int
def hasB(t:Int)(s:Int × Int):Bool:=decide (s.1<=t) && decide (t<s.2)
def a0r(L:List (Int × Int))(t:Int):Int:=((L.filter (hasB t)).length:Int)
def a0y(a b:ByteArray):Bool:=a.toList==b.toList
def ofB(name:ByteArray)(e:Ent):Bool:=a0y e.a0k name && (e.kind != 3)
def a0o(name:ByteArray)(t:Int):List Ent->Int
 |[]=>0
 |e :: r=>(if ofB name e then a0r e.a0e t*e.a0c else 0)+a0o name t r
def a2L(name:ByteArray):List Ent->List Int
 |[]=>[]
 |e :: r=>(if a0y e.a0k name then e.a0e.map (·.1) else [])++a2L name r
theorem a4Q(L:List (Int × Int))(t:Int):0<=a0r L t/\a0r L t<=L.length:=by
 unfold a0r;have:=List.length_filter_le (hasB t) L;omega
theorem e6b(L:List (Int × Int))(s:Int × Int)(t:Int):a0r (L++[s]) t=a0r L t+if hasB t s then 1 else 0:=by
 unfold a0r;rw[List.filter_append,List.length_append]
 cases h:hasB t s <;> simp[h]
theorem a2z(name:ByteArray)(t:Int)(l r:List Ent):a0o name t (l++r)=a0o name t l+a0o name t r:=by
 induction l with
 |nil=>simp[a0o]
 |cons e l ih=>simp only[List.cons_append,a0o,ih];omega
theorem d9J(name:ByteArray)(l r:List Ent):a2L name (l++r)=a2L name l++a2L name r:=by
 induction l with
 |nil=>rfl
 |cons e l ih=>simp only[List.cons_append,a2L,ih,List.append_assoc]
structure Small(e:Ent):Prop where
 u0:0<=e.a0c
 u1:e.a0c<=9
 sl:e.a0e.length<=100
theorem e3w(name:ByteArray)(t:Int)(l:List Ent)(h:∀ e∈l,Small e):0<=a0o name t l/\a0o name t l<=900*l.length:=by
 induction l with
 |nil=>simp[a0o]
 |cons e l ih =>
  have i:=ih (fun x hx=>h x (by simp[hx]));have s:=h e (by simp);have b:=a4Q e.a0e t;have u0:=s.u0;have u1:=s.u1;have sl:=s.sl;have c:0<=a0r e.a0e t*e.a0c:=Int.mul_nonneg b.1 s.u0;have d:a0r e.a0e t*e.a0c<=100*9:=Int.mul_le_mul (by omega) s.u1 s.u0 (by omega);simp only[a0o,List.length_cons]
  split <;> omega
end Desk
def RSL(w:World)(B:Nat)(L:List (Int × Int)):Prop:=∀ (i:Nat)(h:i<L.length),w.cell? ⟨B,i*2,none⟩=some (.int .i64 L[i].1)/\w.cell? ⟨B,i*2+1,none⟩=some (.int .i64 L[i].2)
theorem RSL.off(h:RSL w B L)(k:Off G w w')(hB:B ∉ G):RSL w' B L:=fun i hi=>⟨k.cell hB (h i hi).1,k.cell hB (h i hi).2⟩
theorem RSL.later(h:RSL w B L)(k:Below w.heap.size w w'):RSL w' B L:=h.off (G:=[]) (Off.of_below k) (by simp)
structure RE(w:World)(E i:Nat)(e:Desk.Ent)(B cap:Nat):Prop where
 c0:w.cell? ⟨E,i*6,none⟩=some (.int .i64 e.id)
 c1:w.cell? ⟨E,i*6+1,none⟩=some (.int .i64 e.kind)
 c2:w.cell? ⟨E,i*6+2,none⟩=some (.string e.a0k)
 c3:w.cell? ⟨E,i*6+3,none⟩=some (.int .i64 e.a0c)
 c4:w.cell? ⟨E,i*6+4,none⟩=some (.slice (some ⟨B,0,none⟩) e.a0e.length cap)
 c5:w.cell? ⟨E,i*6+5,none⟩=some (.int .i64 e.a0Z)
 sl:RSL w B e.a0e
theorem RE.later{e:Desk.Ent}(h:RE w E i e B cap)(k:Below w.heap.size w w'):RE w' E i e B cap:=by
 have o:Off [] w w':=Off.of_below k;exact⟨o.cell (by simp) h.c0,o.cell (by simp) h.c1,o.cell (by simp) h.c2,o.cell (by simp) h.c3,o.cell (by simp) h.c4,o.cell (by simp) h.c5,h.sl.off o (by simp)⟩
structure RDE(w:World)(d:Nat)(a:Option Addr)(cap E:Nat)(es:List Desk.Ent):Prop where
 c:w.cell? ⟨d,1,none⟩=some (.slice a es.length cap)
 a:es≠[]->a=some ⟨E,0,none⟩
 r:∀ (i:Nat) (h:i<es.length),∃ B cap,RE w E i es[i] B cap
theorem RDE.later{es:List Desk.Ent}(h:RDE w d a cap E es)(k:Below w.heap.size w w'):RDE w' d a cap E es :=
 ⟨(Off.of_below (F:=[]) k).cell (by simp) h.c,h.a,fun i hi=>by obtain⟨B,c,r⟩:=h.r i hi;exact⟨B,c,r.later k⟩⟩
theorem RDE.at{es:List Desk.Ent}(h:RDE w d a cap E es)(hi:i<es.length):a=some ⟨E,0,none⟩:=h.a (by intro e;simp[e] at hi)
theorem e3i(B cap:Nat)(L:List (Int × Int))(t:Int)(w:World)(h:RSL w B L)(hl:L.length<=100000):
  Calls Tryz.prog 241 #[.slice (some ⟨B,0,none⟩) L.length cap,.int .i64 t] w fun e w'=>e=.returned (.int .i64 (Desk.a0r L t))/\w'=w:=by
 have HS:=a0b h;clear h
 go_enter Tryz.func241,Tryz.ntmps241
 go_wp2_with fail
 go_loop [5,6] (fun n i=>∃ k:Nat,k<=L.length/\i=.int .i64 k/\n=.int .i64 (Desk.a0r (L.take k) t)) (fun _ i=>L.length-(intOf i).toNat)
 case atStart=>exact⟨0,Nat.zero_le _,rfl,by simp[Desk.a0r]⟩
 case round =>
  obtain⟨k,hk,rfl,rfl⟩:=hrel;have bd:=Desk.a4Q (L.take k) t;have bl:=List.length_take_le k L
  by_cases hlt:k<L.length
  ·have c1:=(HS.out k hlt).1;have c2:=(HS.out k hlt).2;have hi:(k:Int)<(L.length:Int):=by omega
   have e:Desk.a0r (L.take (k+1)) t=Desk.a0r (L.take k) t+if Desk.hasB t L[k] then 1 else 0:=by rw[List.take_succ_eq_append_getElem hlt,Desk.e6b]
   have E:=a0b e;clear e;generalize Desk.a0r (L.take k) t=n at *
   by_cases h1:L[k].1<=t
   ·by_cases h2:t<L[k].2
    ·have hb:Hid (Desk.hasB t L[k]=true):=by show Desk.hasB t L[k]=true;simp[Desk.hasB,h1,h2]
     go_wp2_with fail
     go_round
     case rel=>exact⟨k+1,by omega,by go_num,by rw[E.out,hb.out];rfl⟩
     case measure=>simp[intOf];omega
    ·have hb:Hid (Desk.hasB t L[k]=false):=by show Desk.hasB t L[k]=false;simp[Desk.hasB,h2]
     go_wp2_with fail
     go_round
     case rel=>exact⟨k+1,by omega,by go_num,by rw[E.out,hb.out];simp⟩
     case measure=>simp[intOf];omega
   ·have hb:Hid (Desk.hasB t L[k]=false):=by show Desk.hasB t L[k]=false;simp[Desk.hasB,h1]
    go_wp2_with fail
    go_round
    case rel=>exact⟨k+1,by omega,by go_num,by rw[E.out,hb.out];simp⟩
    case measure=>simp[intOf];omega
  ·have e:L.take k=L:=List.take_of_length_le (by omega);have hi:¬ (k:Int)<(L.length:Int):=by omega
   go_wp2_with fail
   go_ret;exact⟨a1L (by first|rfl|rw[e]),rfl⟩
theorem e3v(d:Nat)(a:Option Addr)(cap E:Nat)(es:List Desk.Ent)(name:ByteArray)(t:Int)(w:World)(h:RDE w d a cap E es)(hl:es.length<=1000)(hs:∀ e∈es,Desk.Small e):
  Calls Tryz.prog 242 #[.pointer (some ⟨d,0,none⟩),.string name,.int .i64 t] w fun e w'=>e=.returned (.int .i64 (Desk.a0o name t es))/\Below w.heap.size w w':=by
 have H:=a0b h;have HS:=a0b hs;clear h hs
 go_enter Tryz.func242,Tryz.ntmps242
 go_wp2_with fail
 go_loopw [7,8,9,10] (fun n i _ _ wx=>∃ k:Nat,k<=es.length/\i=.int .i64 k/\n=.int .i64 (Desk.a0o name t (es.take k))/\Below w.heap.size w wx) (fun _ i _ _ _=>es.length-(intOf i).toNat)
 case atStart=>exact⟨0,Nat.zero_le _,rfl,by simp[Desk.a0o],Below.refl _ _⟩
 case round =>
  obtain⟨k,hk,rfl,rfl,hb⟩:=hrel;have bd:=Desk.e3w name t (es.take k) (fun e he=>HS.out e (List.mem_of_mem_take he));have bl:=List.length_take_le k es;have hx:=H.out.later hb;have cc:=hx.c
  by_cases hlt:k<es.length
  ·obtain rfl:=H.out.at hlt;obtain⟨B,cp,hr⟩:=hx.r k hlt;have hsm:=HS.out es[k] (zg hlt);have c0:=hr.c0;have c1:=hr.c1;have c2:=hr.c2;have c3:=hr.c3;have c4:=hr.c4;have c5:=hr.c5;have hi:(k:Int)<(es.length:Int):=by omega
   have e:Desk.a0o name t (es.take (k+1))=Desk.a0o name t (es.take k)+(if Desk.ofB name es[k] then Desk.a0r es[k].a0e t*es[k].a0c else 0):=by
    rw[List.take_succ_eq_append_getElem hlt,Desk.a2z];simp[Desk.a0o]
   have EE:=a0b e;have tb:=Desk.a4Q es[k].a0e t;have u0:=hsm.u0;have u1:=hsm.u1;have sl:=hsm.sl;have m0:0<=Desk.a0r es[k].a0e t*es[k].a0c:=Int.mul_nonneg tb.1 u0;have m1:Desk.a0r es[k].a0e t*es[k].a0c<=900:=by have:Desk.a0r es[k].a0e t*es[k].a0c<=100*9:=Int.mul_le_mul (by omega) u1 u0 (by omega);omega
   have RS:=a0b hr.sl;clear e hr hx hsm;generalize Desk.a0o name t (es.take k)=n at *
   cases hq:Desk.a0y es[k].a0k name
   ·have ho:Hid (Desk.ofB name es[k]=false):=by show Desk.ofB name es[k]=false;simp[Desk.ofB,hq]
    have hq':(es[k].a0k.toList==name.toList)=false:=hq;have HB:=a0b hb;clear hb hq
    go_wp2_with fail
    go_roundw
    case rel=>exact⟨k+1,by omega,by go_num,by rw[EE.out,ho.out];simp,a0j HB.out ((zr _ _).alloc (zq _) _) (zq _)⟩
    case measure=>simp[intOf];omega
   ·have hq':(es[k].a0k.toList==name.toList)=true:=hq;have HB:=a0b hb
    by_cases hk3:es[k].kind=3
    ·have hk':(es[k].kind != 3)=false:=by simp[hk3]
     have ho:Hid (Desk.ofB name es[k]=false):=by show Desk.ofB name es[k]=false;simp[Desk.ofB,hk3]
     clear hb hq hk3
     go_wp2_with fail
     go_roundw
     case rel=>exact⟨k+1,by omega,by go_num,by rw[EE.out,ho.out];simp,a0j HB.out ((zr _ _).alloc (zq _) _) (zq _)⟩
     case measure=>simp[intOf];omega
    ·have hk':(es[k].kind != 3)=true:=by simp[hk3]
     have ho:Hid (Desk.ofB name es[k]=true):=by show Desk.ofB name es[k]=true;simp[Desk.ofB,hq,hk3]
     clear hb hq hk3;have TM:=a0b (fun w' (k':Below wr.heap.size wr w')=>e3i B cp es[k].a0e t w' (RS.out.later k') (by omega))
     have EN:Hid (n+Desk.a0r es[k].a0e t*es[k].a0c=n+if Desk.ofB name es[k] then Desk.a0r es[k].a0e t*es[k].a0c else 0):=by
      show n+_=n+_;rw[ho.out];rfl
     generalize Desk.a0r es[k].a0e t=q at *
     go_wp2_with fail
     refine (TM.out _ ((zr _ _).alloc (zq _) _)).mono ?_;rintro e w' ⟨rfl,rfl⟩;clear TM
     go_wp2_with fail
     go_roundw
     case rel=>exact⟨k+1,by omega,by go_num,by rw[EE.out,<- EN.out],a0j HB.out ((zr _ _).alloc (zq _) _) (zq _)⟩
     case measure=>simp[intOf];omega
  ·have e:es.take k=es:=List.take_of_length_le (by omega);have hi:¬ (k:Int)<(es.length:Int):=by omega
   have HB:=a0b hb;clear hb hx
   go_wp2_with fail
   go_ret;exact⟨a1L (by first|rfl|rw[e]),HB.out⟩
theorem b1S:(Tryz.prog.info? 3).map (fun i=>(i.zero,i.size,i.bytes))=some (some (.int .i64 0),1,8):=by kernel_rfl
theorem d0G{base size:Nat}{xs:List Value}(h:w.ownsRow base e size v n xs){k:Nat}(hk:v.ownBlock=some k):base<=k:=by
 rcases h.2 with ⟨rfl,_⟩|⟨g,cap,cur,rfl,hb,_⟩
 ·simp[Value.ownBlock] at hk
 ·simp[Value.ownBlock] at hk;omega
theorem d7F{base base' size:Nat}{xs:List Value}(h:w.ownsRow base e size v n xs)(hb:base'<=base):w.ownsRow base' e size v n xs:=by
 refine⟨h.1,?_⟩;rcases h.2 with h0|⟨g,cap,cur,hv,hg,rest⟩
 ·exact .inl h0
 ·exact .inr ⟨g,cap,cur,hv,Nat.le_trans hb hg,rest⟩
theorem a1g{base size:Nat}{xs:List Value}(h:w.ownsRow base e size v n xs)(hb:Below w.heap.size w w'):w'.ownsRow base e size v n xs:=by
 refine⟨h.1,?_⟩;rcases h.2 with h0|⟨g,cap,cur,hv,hg,hh,rest⟩
 ·exact .inl h0
 ·refine .inr ⟨g,cap,cur,hv,hg,?_,rest⟩
  have hlt:g<w.heap.size:=by
   by_cases hx:g<w.heap.size
   ·exact hx
   ·rw[Array.getElem?_eq_none (by omega)] at hh;cases hh
  rw[hb.block g hlt];exact hh
theorem a0p(w:World)(o:Obj):(w.alloc o).heap[w.heap.size]?=some o:=heap_alloc_new w o
theorem c8L{base size:Nat}{xs:List Value}(h:w.ownsRow base e size v n xs){cs:Array Value}{t:TypeId}{m:Nat × Nat}(hb:w.heap[b]?=some (.cells cs t m))(hne:t≠e):v.ownBlock≠some b:=by
 intro hk;rcases h.2 with ⟨rfl,_⟩|⟨g,cap,cur,rfl,hg,hh,_⟩
 ·simp[Value.ownBlock] at hk
 ·simp[Value.ownBlock] at hk;subst hk;rw[hb] at hh;simp at hh;exact hne hh.2.1
theorem e1E{base:Nat}{xs:List Int}(h:w.ownsRow base 3 1 v n (xs.map (Value.int .i64))):∃ a cap g,v=.slice a n cap/\n=xs.length/\(xs≠[]->a=some ⟨g,0,none⟩)/\∀ (i:Nat)(hi:i<xs.length),w.cell? ⟨g,i,none⟩=some (.int .i64 xs[i]):=by
 have hl:=h.1;simp at hl;rcases h.2 with ⟨rfl,h0⟩|⟨g,cap,cur,rfl,hg,hh,h1,h2,h3,h4⟩
 ·subst h0;have:xs=[]:=List.length_eq_zero_iff.1 hl;subst this;exact⟨none,0,0,rfl,rfl,fun h=>absurd rfl h,fun i hi=>by simp at hi⟩
 ·refine⟨some ⟨g,0,none⟩,cap,g,rfl,hl.symm,fun _=>rfl,fun i hi=>?_⟩;have e:(cur.toList.take (n*1))[i]?=(xs.map (Value.int .i64))[i]?:=by rw[h4]
  rw[List.getElem?_map,List.getElem?_eq_getElem hi,List.getElem?_take_of_lt (by omega)] at e;simp only[Array.getElem?_toList,Option.map_some] at e;simp[World.cell?,hh,e]
def f9l(e:Desk.Ent)(B cap:Nat):Array Value:=#[.int .i64 e.id,.int .i64 e.kind,.string e.a0k,.int .i64 e.a0c,.slice (some ⟨B,0,none⟩) e.a0e.length cap,.int .i64 e.a0Z]
def d0d(name:ByteArray)(l:List Desk.Ent)(e:Desk.Ent)(j:Nat):List Int:=Desk.a2L name l++(e.a0e.take j).map (·.1)
theorem d4X(name:ByteArray)(l:List Desk.Ent)(h:∀ e∈l,Desk.Small e):(Desk.a2L name l).length<=100*l.length:=by
 induction l with
 |nil=>simp[Desk.a2L]
 |cons e l ih =>
  have i:=ih (fun x hx=>h x (by simp[hx]));have s:=(h e (by simp)).sl;simp only[Desk.a2L,List.length_append,List.length_cons]
  split <;> simp <;> omega
theorem e0b(d:Nat)(a:Option Addr)(cap E:Nat)(es:List Desk.Ent)(name:ByteArray)(w:World)(h:RDE w d a cap E es)(hl:es.length<=1000)(hs:∀ e∈es,Desk.Small e):
  Calls Tryz.prog 240 #[.pointer (some ⟨d,0,none⟩),.string name] w fun e w'=>∃ v,e=.returned v/\w'.ownsRow w.heap.size 3 1 v (Desk.a2L name es).length ((Desk.a2L name es).map (Value.int .i64))/\Below w.heap.size w w':=by
 obtain⟨i0,hi0,hz0,hz1,hz2⟩:=info_parts b1S;have H:=a0b h;have HS:=a0b hs;clear h hs
 go_enter Tryz.func240,Tryz.ntmps240
 go_wp2_with fail
 go_loopw [5,6,7,8] (fun v i _ _ wx=>∃ k:Nat,k<=es.length/\i=.int .i64 k/\wx.ownsRow w.heap.size 3 1 v (Desk.a2L name (es.take k)).length ((Desk.a2L name (es.take k)).map (Value.int .i64))/\Below w.heap.size w wx) (fun _ i _ _ _=>es.length-(intOf i).toNat)
 case atStart=>exact⟨0,Nat.zero_le _,rfl,World.ownsRow_nil _ _ _ _,Below.refl _ _⟩
 case round =>
  obtain⟨k,hk,rfl,hown,hb⟩:=hrel;have bl:=List.length_take_le k es;have hx:=H.out.later hb;have cc:=hx.c;have sz:=d4X name (es.take k) (fun e he=>HS.out e (List.mem_of_mem_take he))
  by_cases hlt:k<es.length
  ·obtain rfl:=H.out.at hlt;obtain⟨B,cp,hr0⟩:=H.out.r k hlt;have hr:=hr0.later hb;have hsm:=HS.out es[k] (zg hlt);have c0:=hr.c0;have c1:=hr.c1;have c2:=hr.c2;have c3:=hr.c3;have c4:=hr.c4;have c5:=hr.c5;have hi:(k:Int)<(es.length:Int):=by omega
   have e:Desk.a2L name (es.take (k+1))=Desk.a2L name (es.take k)++(if Desk.a0y es[k].a0k name then es[k].a0e.map (·.1) else []):=by
    rw[List.take_succ_eq_append_getElem hlt,Desk.d9J];simp[Desk.a2L]
   have EE:=a0b e;have sl:=hsm.sl;have RS:=a0b hr0.sl;have HB:=a0b hb;have hbs:=hb.size;have HO:=a0b hown;clear e hr hr0 hx hsm hown hb
   go_wp2_with fail
   have hX:(wr.alloc (.cells (f9l es[k] B cp) 58)).heap[wr.heap.size]?=some (.cells (f9l es[k] B cp) 58):=a0p _ _;have oX:(wr.alloc (.cells (f9l es[k] B cp) 58)).ownsRow w.heap.size 3 1 u5 (Desk.a2L name (es.take k)).length ((Desk.a2L name (es.take k)).map (Value.int .i64)):=a1g HO.out ((zr _ _).alloc (zq _) _);have bX:Below w.heap.size w (wr.alloc (.cells (f9l es[k] B cp) 58)):=a0j HB.out ((zr _ _).alloc (zq _) _) (zq _);simp only[f9l] at hX oX bX;have HX:=a0b (zA hX (zA oX bX));clear hX oX bX c0 c1 c2 c3 c4 c5 cc HB HO;generalize (World.alloc wr _)=X at HX ⊢;generalize wr.heap.size=bx at HX hbs ⊢;have hq:∃ q,Desk.a0y es[k].a0k name=q:=⟨_,rfl⟩;obtain⟨q,hq⟩:=hq;have hq':(es[k].a0k.toList==name.toList)=q:=hq;have HQ:=a0b hq;clear hq
   go_loopw [5,8] (fun v i wx=>∃ j:Nat,j<=es[k].a0e.length/\(q=false->j=0)/\i=.int .i64 j/\wx.ownsRow w.heap.size 3 1 v (d0d name (es.take k) es[k] j).length ((d0d name (es.take k) es[k] j).map (Value.int .i64))/\Below w.heap.size w wx/\wx.heap[bx]?=some (.cells (f9l es[k] B cp) 58)) (fun _ i _=>es[k].a0e.length-(intOf i).toNat)
   case atStart=>exact⟨0,Nat.zero_le _,fun _=>rfl,rfl,by rw[d0d];simpa using HX.out.2.1,HX.out.2.2,HX.out.1⟩
   case round =>
    obtain⟨j,hj,hj0,rfl,hown,hb,hbx⟩:=hrel;have b4:wr.cell? ⟨bx,4,none⟩=some (.slice (some ⟨B,0,none⟩) es[k].a0e.length cp):=by simp[World.cell?,hbx,f9l]
    have b2:wr.cell? ⟨bx,2,none⟩=some (.string es[k].a0k):=by simp[World.cell?,hbx,f9l]
    have HOB:=a0b (zA hown (zA hb hbx));have hbs2:=hb.size
    by_cases hgo:q=true/\j<es[k].a0e.length
    ·obtain⟨rfl,hjl⟩:=hgo;have r1:=(RS.out.later hb j hjl).1;have hi2:(j:Int)<(es[k].a0e.length:Int):=by omega
     have es1:d0d name (es.take k) es[k] (j+1)=d0d name (es.take k) es[k] j++[es[k].a0e[j].1]:=by
      unfold d0d;rw[List.take_succ_eq_append_getElem hjl,List.map_append,List.append_assoc];rfl
     have ES:=a0b es1
     have eln:(d0d name (es.take k) es[k] j).length<=100*k+100:=by
      unfold d0d;have:=List.length_take_le j es[k].a0e;simp only[List.length_append,List.length_map];omega
     have hne:=c8L hown hbx (by decide);have HNE:=a0b hne;clear es1 hb hbx hne hj0
     go_wp2_with (first
      |(at_builtin;refine wpList_append_own _ rfl _ _ 38 rfl w.heap.size 3 i0 (.int .i64 0) 1 8 Tryz.underlying38 hi0 hz0 hz1 hz2 rfl (by decide) _ _ _ rfl (hown.alloc _) ⟨wr.heap.size,0,none⟩ 1 1 [.int .i64 es[k].a0e[j].1] rfl rfl ?c1 ?c2 ?c3 ?c4 ?c5 ?_))
     case c1=>exact World.news_of_block (cs:=#[.int .i64 es[k].a0e[j].1]) (a0p wr _)
     case c2=>simp[Value.oneCell']
     case c3=>unfold maxLen;omega
     case c4=>omega
     case c5=>simp;omega
     intro v' w' hown' hgrow _;have hb':Below w.heap.size w w':=(HOB.out.2.1.alloc hbs2 _).grown hgrow (by simp;omega) (fun k hk=>d0G HOB.out.1 hk)
     have hbx':w'.heap[bx]?=some (.cells (f9l es[k] B cp) 58):=by
      have l1:bx<wr.heap.size:=by
       by_cases hx:bx<wr.heap.size
       ·exact hx
       ·have:=HOB.out.2.2;rw[Array.getElem?_eq_none (by omega)] at this;cases this
      rw[hgrow.block bx (by simp;omega) (fun e=>HNE.out e.symm)];exact (Below.heap_alloc wr _ bx l1).trans HOB.out.2.2
     have HK:Hid (w'.ownsRow w.heap.size 3 1 v' (d0d name (es.take k) es[k] (j+1)).length ((d0d name (es.take k) es[k] (j+1)).map (Value.int .i64))):=by
      show w'.ownsRow _ _ _ _ _ _;rw[ES.out,List.map_append,List.length_append];exact hown'
     have HB2:=a0b (zA hb' hbx');clear hown' hgrow hb' hbx' hown HOB HNE r1 b4 b2
     go_wp2_with fail
     go_roundw
     case rel=>exact⟨j+1,by omega,fun e=>(by cases e),by go_num,HK.out,HB2.out.1,HB2.out.2⟩
     case measure=>simp[intOf];omega
    ·have hfin:d0d name (es.take k) es[k] j=Desk.a2L name (es.take (k+1)):=by
      rw[EE.out,d0d,HQ.out]
      cases q with
      |false=>rw[hj0 rfl];simp
      |true =>
       have:es[k].a0e.take j=es[k].a0e:=List.take_of_length_le (by have:¬ j<es[k].a0e.length:=fun h=>hgo ⟨rfl,h⟩;omega);rw[this];rfl
     have HK:Hid (wr.ownsRow w.heap.size 3 1 u5 (Desk.a2L name (es.take (k+1))).length ((Desk.a2L name (es.take (k+1))).map (Value.int .i64))):=by
      show wr.ownsRow _ _ _ _ _ _;rw[<- hfin];exact hown
     clear hown hb hbx hfin
     have hcase:q=false\/(q=true/\¬ (j:Int)<(es[k].a0e.length:Int)):=by
      cases q with
      |false=>exact .inl rfl
      |true=>exact .inr ⟨rfl,fun h=>hgo ⟨rfl,by omega⟩⟩
     clear hgo;rcases hcase with rfl|⟨rfl,hi2⟩
     ·obtain rfl:=hj0 rfl;clear hj0
      by_cases hz:(0:Int)<(es[k].a0e.length:Int)
      all_goals
       go_wp2_with fail
       go_roundw
       case rel=>exact⟨k+1,by omega,by go_num,HK.out,HOB.out.2.1⟩
       case measure=>simp[intOf];omega
     ·clear hj0
      go_wp2_with fail
      go_roundw
      case rel=>exact⟨k+1,by omega,by go_num,HK.out,HOB.out.2.1⟩
      case measure=>simp[intOf];omega
  ·have e:es.take k=es:=List.take_of_length_le (by omega);have hi:¬ (k:Int)<(es.length:Int):=by omega
   rw[e] at hown;have HB:=a0b (zA hown hb);clear hb hx hown
   go_wp2_with fail
   go_ret;exact⟨_,rfl,HB.out.1,HB.out.2⟩
namespace Desk
def a0h(name:ByteArray):List (ByteArray × Int)->Int
 |[]=>0
 |t :: r=>if a0y t.1 name then t.2 else a0h name r
def c4T(most:Int)(name:ByteArray)(a0c:Int)(L:List (Int × Int))(es:List Ent)(x:Int):Bool:=decide (0<a0r L x) && decide (most<a0o name x es+a0r L x*a0c)
def c4e(most:Int)(name:ByteArray)(a0c:Int)(L:List (Int × Int))(es:List Ent)(l:List Int):Bool:=l.all fun x=>!c4T most name a0c L es x
def a1e(ts:List (ByteArray × Int))(es:List Ent)(name:ByteArray)(a0c:Int)(L:List (Int × Int)):Bool:=c4e (a0h name ts) name a0c L es (a2L name es++L.map (·.1))
end Desk
structure RDT(w:World)(d:Nat)(a:Option Addr)(cap G:Nat)(ts:List (ByteArray × Int)):Prop where
 c:w.cell? ⟨d,0,none⟩=some (.slice a ts.length cap)
 a:ts≠[]->a=some ⟨G,0,none⟩
 r:∀ (i:Nat) (h:i<ts.length),w.cell? ⟨G,i*2,none⟩=some (.string ts[i].1)/\w.cell? ⟨G,i*2+1,none⟩=some (.int .i64 ts[i].2)
theorem RDT.later{G:Nat}(h:RDT w d a cap G ts)(k:Below w.heap.size w w'):RDT w' d a cap G ts :=
 ⟨a0a k h.c,h.a,fun i hi=>⟨a0a k (h.r i hi).1,a0a k (h.r i hi).2⟩⟩
theorem RDT.at{G:Nat}(h:RDT w d a cap G ts)(hi:i<ts.length):a=some ⟨G,0,none⟩:=h.a (by intro e;simp[e] at hi)
theorem d7R(d:Nat)(a:Option Addr)(cap G:Nat)(ts:List (ByteArray × Int))(name:ByteArray)(w:World)(h:RDT w d a cap G ts)(hl:ts.length<=1000):
  Calls Tryz.prog 229 #[.pointer (some ⟨d,0,none⟩),.string name] w fun e w'=>e=.returned (.int .i64 (Desk.a0h name ts))/\w'=w:=by
 have H:=a0b h;have cc:=h.c;clear h
 go_enter Tryz.func229,Tryz.ntmps229
 go_wp2_with fail
 go_loop [5] (fun i=>∃ k:Nat,k<=ts.length/\i=.int .i64 k/\Desk.a0h name ts=Desk.a0h name (ts.drop k)) (fun i=>ts.length-(intOf i).toNat)
 case atStart=>exact⟨0,Nat.zero_le _,rfl,rfl⟩
 case round =>
  obtain⟨k,hk,rfl,hu⟩:=hrel;have HU:=a0b hu;clear hu
  by_cases hlt:k<ts.length
  ·obtain rfl:=H.out.at hlt;obtain⟨c0,c1⟩:=H.out.r k hlt;have hi:(k:Int)<(ts.length:Int):=by omega
   have ed:Desk.a0h name (ts.drop k)=if Desk.a0y ts[k].1 name then ts[k].2 else Desk.a0h name (ts.drop (k+1)):=by rw[List.drop_eq_getElem_cons hlt];rfl
   have ED:=a0b ed;clear ed
   cases hq:Desk.a0y ts[k].1 name
   ·have hq':(ts[k].1.toList==name.toList)=false:=hq;have HN:Hid (Desk.a0h name ts=Desk.a0h name (ts.drop (k+1))):=by show Desk.a0h name ts=_;rw[HU.out,ED.out,hq];rfl
    clear hq
    go_wp2_with fail
    go_round
    case rel=>exact⟨k+1,by omega,by go_num,HN.out⟩
    case measure=>simp[intOf];omega
   ·have hq':(ts[k].1.toList==name.toList)=true:=hq;have HN:Hid (Desk.a0h name ts=ts[k].2):=by show Desk.a0h name ts=_;rw[HU.out,ED.out,hq];rfl
    clear hq
    go_wp2_with fail
    go_ret;exact⟨a1L HN.out.symm,rfl⟩
  ·have e:ts.drop k=[]:=List.drop_eq_nil_of_le (by omega);have HN:Hid (Desk.a0h name ts=0):=by show Desk.a0h name ts=0;rw[HU.out,e];rfl
   have hi:¬ (k:Int)<(ts.length:Int):=by omega
   clear e
   go_wp2_with fail
   go_ret;exact⟨a1L HN.out.symm,rfl⟩
theorem f0u(d:Nat)(a:Option Addr)(cap E:Nat)(es:List Desk.Ent)(at_:Option Addr)(ct G:Nat)(ts:List (ByteArray × Int))(name:ByteArray)(a0c:Int)(B cb:Nat)(L:List (Int × Int))(w:World)(h:RDE w d a cap E es)(ht:RDT w d at_ ct G ts)(hL:RSL w B L)(hl:es.length<=1000)(htl:ts.length<=1000)(hs:∀ e∈es,Desk.Small e)(hll:L.length<=100)(hu0:0<=a0c)(hu1:a0c<=9):
  Calls Tryz.prog 182 #[.pointer (some ⟨d,0,none⟩),.string name,.int .i64 a0c,.slice (some ⟨B,0,none⟩) L.length cb] w fun e w'=>e=.returned (.bool (Desk.a1e ts es name a0c L))/\Below w.heap.size w w':=by
 obtain⟨i0,hi0,hz0,hz1,hz2⟩:=info_parts b1S;have ST:=a0b (e0b d a cap E es name w h hl hs);have UN:=a0b (fun w' (k:Below w.heap.size w w')=>d7R d at_ ct G ts name w' (ht.later k) htl);have TM:=a0b (fun t w' (k:Below w.heap.size w w')=>e3i B cb L t w' (hL.later k) (by omega));have TK:=a0b (fun t w' (k:Below w.heap.size w w')=>e3v d a cap E es name t w' (h.later k) hl hs);have sz:=d4X name es hs;have HL:=a0b hL;have HBD:=a0b (fun t=>Desk.e3w name t es hs);have hfit:Desk.a1e ts es name a0c L=Desk.c4e (Desk.a0h name ts) name a0c L es (Desk.a2L name es++L.map (·.1)):=rfl;rw[hfit];obtain⟨l,hl2⟩:∃ l,Desk.a2L name es++L.map (·.1)=l:=⟨_,rfl⟩
 have eln2:l.length<=100100:=by
  rw[<- hl2];simp only[List.length_append,List.length_map];omega
 rw[hl2];have HL2:=a0b hl2;generalize Desk.a0h name ts=most at *;clear h ht hs hL hfit hl2
 go_enter Tryz.func182,Tryz.ntmps182
 go_wp2_with fail
 refine ST.out.mono ?_;rintro e w1 ⟨v1,rfl,ho1,hb1⟩;have O1:=a0b (zA ho1 hb1);clear ST ho1 hb1
 go_wp2_with fail
 go_loopw [9,10] (fun v i wx=>∃ k:Nat,k<=L.length/\i=.int .i64 k/\wx.ownsRow w.heap.size 3 1 v (Desk.a2L name es++(L.take k).map (·.1)).length ((Desk.a2L name es++(L.take k).map (·.1)).map (Value.int .i64))/\Below w.heap.size w wx) (fun _ i _=>L.length-(intOf i).toNat)
 case atStart=>exact⟨0,Nat.zero_le _,rfl,by simpa using O1.out.1,O1.out.2⟩
 case round =>
  obtain⟨k,hk,rfl,hown,hb⟩:=hrel;have HOB:=a0b (zA hown hb);have hbs:=hb.size
  by_cases hlt:k<L.length
  ·have r1:=(HL.out.later hb k hlt).1;have hi2:(k:Int)<(L.length:Int):=by omega
   have es1:Desk.a2L name es++(L.take (k+1)).map (·.1)=(Desk.a2L name es++(L.take k).map (·.1))++[L[k].1]:=by
    rw[List.take_succ_eq_append_getElem hlt,List.map_append,List.append_assoc];rfl
   have ES:=a0b es1
   have eln:(Desk.a2L name es++(L.take k).map (·.1)).length<=100100:=by
    have:=List.length_take_le k L;simp only[List.length_append,List.length_map];omega
   clear es1 hb
   go_wp2_with (first
    |(at_builtin;refine wpList_append_own _ rfl _ _ 38 rfl w.heap.size 3 i0 (.int .i64 0) 1 8 Tryz.underlying38 hi0 hz0 hz1 hz2 rfl (by decide) _ _ _ rfl (hown.alloc _) ⟨wr.heap.size,0,none⟩ 1 1 [.int .i64 L[k].1] rfl rfl (World.news_of_block (cs:=#[.int .i64 L[k].1]) (a0p wr _)) (by simp[Value.oneCell']) (by unfold maxLen;omega) (by omega) (by simp;omega) ?_;intro v' w' hown' hgrow _))
   have hb':Below w.heap.size w w':=(HOB.out.2.alloc hbs _).grown hgrow (by simp;omega) (fun k hk=>d0G HOB.out.1 hk)
   have HK:Hid (w'.ownsRow w.heap.size 3 1 v' (Desk.a2L name es++(L.take (k+1)).map (·.1)).length ((Desk.a2L name es++(L.take (k+1)).map (·.1)).map (Value.int .i64))):=by
    show w'.ownsRow _ _ _ _ _ _;rw[ES.out,List.map_append,List.length_append];exact hown'
   have HB2:=a0b hb';clear hown' hgrow hb' hown HOB r1
   go_wp2_with fail
   go_roundw
   case rel=>exact⟨k+1,by omega,by go_num,HK.out,HB2.out⟩
   case measure=>simp[intOf];omega
  ·have e:L.take k=L:=List.take_of_length_le (by omega);have hi2:¬ (k:Int)<(L.length:Int):=by omega
   rw[e,HL2.out] at hown;obtain⟨a2,c2,g2,rfl,hn2,ha2,hr2⟩:=e1E hown;have R2:=a0b (zA ha2 (zA hr2 hb));clear hown hb e HOB ha2 hr2 hn2 O1 HL2
   go_wp2_with fail
   refine (UN.out _ R2.out.2.2).mono ?_;rintro e w2 ⟨rfl,rfl⟩;clear UN
   go_wp2_with fail
   go_loopw [12,13] (fun i _ wx=>∃ j:Nat,j<=l.length/\i=.int .i64 j/\Desk.c4e most name a0c L es (l.take j)=true/\Below w2.heap.size w2 wx) (fun i _ _=>l.length-(intOf i).toNat)
   case atStart=>exact⟨0,Nat.zero_le _,rfl,by simp[Desk.c4e],Below.refl _ _⟩
   case round =>
    obtain⟨j,hj,rfl,hf,hb⟩:=hrel;have HF:=a0b hf;have hbw:=a0j R2.out.2.2 hb (zq _);have HBW:=a0b hbw;have HB:=a0b hb;clear hf hbw
    by_cases hjl:j<l.length
    ·obtain rfl:=R2.out.1 (by intro e;simp[e] at hjl);have c0:=a0a hb (R2.out.2.1 j hjl);have hi2:(j:Int)<(l.length:Int):=by omega
     have hst:Desk.c4e most name a0c L es (l.take (j+1))=(Desk.c4e most name a0c L es (l.take j) && !Desk.c4T most name a0c L es l[j]):=by
      unfold Desk.c4e;rw[List.take_succ_eq_append_getElem hjl,List.all_append];simp
     have HST:=a0b hst;have TM1:=a0b (TM.out l[j]);have TK1:=a0b (TK.out l[j]);have bd1:=Desk.a4Q L l[j];have bd2:=HBD.out l[j]
     have hall:Hid (Desk.c4T most name a0c L es l[j]=true->Desk.c4e most name a0c L es l=false):=by
      intro ho;unfold Desk.c4e;rw[List.all_eq_false];exact⟨l[j],List.getElem_mem hjl,by simp[ho]⟩
     have hover:Desk.c4T most name a0c L es l[j]=(decide (0<Desk.a0r L l[j]) && decide (most<Desk.a0o name l[j] es+Desk.a0r L l[j]*a0c)):=rfl;have m0:0<=Desk.a0r L l[j]*a0c:=Int.mul_nonneg bd1.1 hu0;have m1:Desk.a0r L l[j]*a0c<=900:=by have:Desk.a0r L l[j]*a0c<=100*9:=Int.mul_le_mul (by omega) hu1 hu0 (by omega);omega
     generalize Desk.a0r L l[j]=n at *;generalize Desk.a0o name l[j] es=tk at *;have HOV:=a0b hover;clear hst hover hb
     by_cases hn:0<n
     ·by_cases hm:most<tk+n*a0c
      ·have HO:Hid (Desk.c4T most name a0c L es l[j]=true):=by show _=true;rw[HOV.out];simp[hn,hm]
       go_wp2_with fail
       refine (TM1.out _ HBW.out).mono ?_;rintro e w3 ⟨rfl,rfl⟩
       go_wp2_with fail
       refine (TK1.out _ HBW.out).mono ?_;rintro e w4 ⟨rfl,hb4⟩;have HB4:=a0b (a0j HBW.out hb4 (zq _));clear hb4 TM1 TK1 TM TK
       go_wp2_with fail
       go_ret;exact⟨a2C (hall.out HO.out).symm,HB4.out⟩
      ·have HO:Hid (Desk.c4T most name a0c L es l[j]=false):=by show _=false;rw[HOV.out];simp[hm]
       go_wp2_with fail
       refine (TM1.out _ HBW.out).mono ?_;rintro e w3 ⟨rfl,rfl⟩
       go_wp2_with fail
       refine (TK1.out _ HBW.out).mono ?_;rintro e w4 ⟨rfl,hb4⟩;have HB4:=a0b (a0j HB.out hb4 (zq _));clear hb4 TM1 TK1 TM TK
       go_wp2_with fail
       go_roundw
       case rel=>exact⟨j+1,by omega,by go_num,by rw[HST.out,HF.out,HO.out];rfl,HB4.out⟩
       case measure=>simp[intOf];omega
     ·have HO:Hid (Desk.c4T most name a0c L es l[j]=false):=by show _=false;rw[HOV.out];simp[hn]
      go_wp2_with fail
      refine (TM1.out _ HBW.out).mono ?_;rintro e w3 ⟨rfl,rfl⟩;clear TM1 TK1 TM TK
      go_wp2_with fail
      go_roundw
      case rel=>exact⟨j+1,by omega,by go_num,by rw[HST.out,HF.out,HO.out];rfl,HB.out⟩
      case measure=>simp[intOf];omega
    ·have e:l.take j=l:=List.take_of_length_le (by omega);have hi2:¬ (j:Int)<(l.length:Int):=by omega
     rw[e] at HF;clear e hb
     go_wp2_with fail
     go_ret;exact⟨a2C HF.out.symm,HBW.out⟩
namespace Desk
def d0u(id:Int):List Ent->Int->Int
 |[],_=>-1
 |e :: r,i=>if e.id=id then i else d0u id r (i+1)
def a1Y(es:List Ent):Int:=((es.filter fun e=>e.kind==3).length:Int)
def a0S(ts:List (ByteArray × Int))(name:ByteArray)(a0c:Int):Int:=if a0h name ts=0 then 3 else if a0h name ts<a0c then 7 else 0
end Desk
def c7a(x:Desk.Ent × Nat × Nat):List Value:=[.int .i64 x.1.id,.int .i64 x.1.kind,.string x.1.a0k,.int .i64 x.1.a0c,.slice (some ⟨x.2.1,0,none⟩) x.1.a0e.length x.2.2,.int .i64 x.1.a0Z]
structure RDX(w:World)(d:Nat)(a:Option Addr)(cap E:Nat)(xs:List (Desk.Ent × Nat × Nat)):Prop where
 c:w.cell? ⟨d,1,none⟩=some (.slice a xs.length cap)
 a:xs≠[]->a=some ⟨E,0,none⟩
 r:∀ (i:Nat) (h:i<xs.length),RE w E i xs[i].1 xs[i].2.1 xs[i].2.2
theorem RDX.de{xs:List (Desk.Ent × Nat × Nat)}(h:RDX w d a cap E xs):RDE w d a cap E (xs.map (·.1)) :=
 ⟨by rw[List.length_map];exact h.c,fun hn=>h.a (by intro e;simp[e] at hn),fun i hi=>by
  have hi':i<xs.length:=by simpa using hi
  exact⟨xs[i].2.1,xs[i].2.2,by simpa using h.r i hi'⟩⟩
theorem RDX.later{xs:List (Desk.Ent × Nat × Nat)}(h:RDX w d a cap E xs)(k:Below w.heap.size w w'):RDX w' d a cap E xs:=⟨a0a k h.c,h.a,fun i hi=>(h.r i hi).later k⟩
theorem RDX.at{xs:List (Desk.Ent × Nat × Nat)}(h:RDX w d a cap E xs)(hi:i<xs.length):a=some ⟨E,0,none⟩:=h.a (by intro e;simp[e] at hi)
theorem f4h(d:Nat)(a:Option Addr)(cap E:Nat)(es:List Desk.Ent)(id:Int)(w:World)(h:RDE w d a cap E es)(hl:es.length<=1000):
  Calls Tryz.prog 233 #[.pointer (some ⟨d,0,none⟩),.int .i64 id] w fun e w'=>e=.returned (.int .i64 (Desk.d0u id es 0))/\w'=w:=by
 have H:=a0b h;have cc:=h.c;clear h
 go_enter Tryz.func233,Tryz.ntmps233
 go_wp2_with fail
 go_loop [5] (fun i=>∃ k:Nat,k<=es.length/\i=.int .i64 k/\Desk.d0u id es 0=Desk.d0u id (es.drop k) k) (fun i=>es.length-(intOf i).toNat)
 case atStart=>exact⟨0,Nat.zero_le _,rfl,rfl⟩
 case round =>
  obtain⟨k,hk,rfl,hu⟩:=hrel;have HU:=a0b hu;clear hu
  by_cases hlt:k<es.length
  ·obtain rfl:=H.out.at hlt;obtain⟨B,cp,hr⟩:=H.out.r k hlt;have c0:=hr.c0;have hi:(k:Int)<(es.length:Int):=by omega
   have ed:Desk.d0u id (es.drop k) k=if es[k].id=id then (k:Int) else Desk.d0u id (es.drop (k+1)) (k+1):=by rw[List.drop_eq_getElem_cons hlt];rfl
   have ED:=a0b ed;clear ed hr
   by_cases hq:es[k].id=id
   ·have hq':(es[k].id==id)=true:=by simp[hq]
    have HN:Hid (Desk.d0u id es 0=k):=by show Desk.d0u id es 0=k;rw[HU.out,ED.out,if_pos hq]
    clear hq
    go_wp2_with fail
    go_ret;exact⟨a1L HN.out.symm,rfl⟩
   ·have hq':(es[k].id==id)=false:=by simp[hq]
    have HN:Hid (Desk.d0u id es 0=Desk.d0u id (es.drop (k+1)) ((k+1:Nat):Int)):=by show Desk.d0u id es 0=_;rw[HU.out,ED.out,if_neg hq];rfl
    clear hq
    go_wp2_with fail
    go_round
    case rel=>exact⟨k+1,by omega,by go_num,HN.out⟩
    case measure=>simp[intOf];omega
  ·have e:es.drop k=[]:=List.drop_eq_nil_of_le (by omega);have HN:Hid (Desk.d0u id es 0=-1):=by show Desk.d0u id es 0=-1;rw[HU.out,e];rfl
   have hi:¬ (k:Int)<(es.length:Int):=by omega
   clear e
   go_wp2_with fail
   go_ret;exact⟨a1L HN.out.symm,rfl⟩
theorem e5Y(d:Nat)(a:Option Addr)(cap E:Nat)(es:List Desk.Ent)(w:World)(h:RDE w d a cap E es)(hl:es.length<=1000):
  Calls Tryz.prog 231 #[.pointer (some ⟨d,0,none⟩)] w fun e w'=>e=.returned (.int .i64 (Desk.a1Y es))/\w'=w:=by
 have H:=a0b h;have cc:=h.c;clear h
 go_enter Tryz.func231,Tryz.ntmps231
 go_wp2_with fail
 go_loop [3,4] (fun n i=>∃ k:Nat,k<=es.length/\i=.int .i64 k/\n=.int .i64 (Desk.a1Y (es.take k))) (fun _ i=>es.length-(intOf i).toNat)
 case atStart=>exact⟨0,Nat.zero_le _,rfl,rfl⟩
 case round =>
  obtain⟨k,hk,rfl,rfl⟩:=hrel
  have bd:0<=Desk.a1Y (es.take k)/\Desk.a1Y (es.take k)<=k:=by
   unfold Desk.a1Y;have:=List.length_filter_le (fun e:Desk.Ent=>e.kind==3) (es.take k);have:=List.length_take_le k es;omega
  by_cases hlt:k<es.length
  ·obtain rfl:=H.out.at hlt;obtain⟨B,cp,hr⟩:=H.out.r k hlt;have c1:=hr.c1;have hi:(k:Int)<(es.length:Int):=by omega
   have ed:Desk.a1Y (es.take (k+1))=Desk.a1Y (es.take k)+if es[k].kind==3 then 1 else 0:=by
    unfold Desk.a1Y;rw[List.take_succ_eq_append_getElem hlt,List.filter_append,List.length_append]
    cases hq:(es[k].kind==3) <;> simp[hq]
   have ED:=a0b ed;clear ed hr;generalize Desk.a1Y (es.take k)=n at *
   cases hq:(es[k].kind==3)
   ·have HN:Hid (Desk.a1Y (es.take (k+1))=n):=by show _=n;rw[ED.out,hq];simp
    go_wp2_with fail
    go_round
    case rel=>exact⟨k+1,by omega,by go_num,by rw[HN.out]⟩
    case measure=>simp[intOf];omega
   ·have HN:Hid (Desk.a1Y (es.take (k+1))=n+1):=by show _=n+1;rw[ED.out,hq];simp
    go_wp2_with fail
    go_round
    case rel=>exact⟨k+1,by omega,by go_num,by rw[HN.out]⟩
    case measure=>simp[intOf];omega
  ·have e:es.take k=es:=List.take_of_length_le (by omega);have hi:¬ (k:Int)<(es.length:Int):=by omega
   go_wp2_with fail
   go_ret;exact⟨a1L (by first|rfl|rw[e]),rfl⟩
theorem f1o(d:Nat)(a:Option Addr)(cap G:Nat)(ts:List (ByteArray × Int))(name:ByteArray)(a0c:Int)(w:World)(h:RDT w d a cap G ts)(hl:ts.length<=1000):
  Calls Tryz.prog 230 #[.pointer (some ⟨d,0,none⟩),.string name,.int .i64 a0c] w fun e w'=>e=.returned (.int .i64 (Desk.a0S ts name a0c))/\w'=w:=by
 have UN:=a0b (d7R d a cap G ts name w h hl);have HA:Hid (Desk.a0S ts name a0c=if Desk.a0h name ts=0 then 3 else if Desk.a0h name ts<a0c then 7 else 0):=rfl;generalize Desk.a0h name ts=n at *;generalize Desk.a0S ts name a0c=r at *;clear h
 by_cases h0:n=0
 ·have hr:Hid (r=3):=by show r=3;rw[HA.out,if_pos h0]
  have h0':(n==0)=true:=by simp[h0]
  clear h0 HA
  go_enter Tryz.func230,Tryz.ntmps230
  go_wp2_with fail
  refine UN.out.mono ?_;rintro e w1 ⟨rfl,rfl⟩
  go_wp2_with fail
  go_ret;exact⟨a1L hr.out.symm,rfl⟩
 ·have h0':(n==0)=false:=by simp[h0]
  by_cases h1:n<a0c
  ·have hr:Hid (r=7):=by show r=7;rw[HA.out,if_neg h0,if_pos h1]
   clear h0 HA
   go_enter Tryz.func230,Tryz.ntmps230
   go_wp2_with fail
   refine UN.out.mono ?_;rintro e w1 ⟨rfl,rfl⟩
   go_wp2_with fail
   go_ret;exact⟨a1L hr.out.symm,rfl⟩
  ·have hr:Hid (r=0):=by show r=0;rw[HA.out,if_neg h0,if_neg h1]
   clear h0 HA
   go_enter Tryz.func230,Tryz.ntmps230
   go_wp2_with fail
   refine UN.out.mono ?_;rintro e w1 ⟨rfl,rfl⟩
   go_wp2_with fail
   go_ret;exact⟨a1L hr.out.symm,rfl⟩
theorem e2i:(Tryz.prog.info? 58).map (fun i=>(i.zero,i.size,i.bytes))=some (some (.agg #[.int .i64 0,.int .i64 0,.string ⟨#[]⟩,.int .i64 0,.slice none 0 0,.int .i64 0]),6,72):=by kernel_rfl
def d2z(id:Int)(xs:List (Desk.Ent × Nat × Nat)):List (Desk.Ent × Nat × Nat):=xs.filter fun x=>x.1.id != id
theorem d5V(x:Desk.Ent × Nat × Nat):(c7a x).length=6:=rfl
theorem e9H(xs:List (Desk.Ent × Nat × Nat)):(xs.flatMap c7a).length=xs.length*6:=by
 induction xs with
 |nil=>rfl
 |cons x xs ih=>simp only[List.flatMap_cons,List.length_append,List.length_cons,ih,d5V];omega
theorem e1F{base:Nat}{xs:List (Desk.Ent × Nat × Nat)}(h:w.ownsRow base 58 6 v n (xs.flatMap c7a))(hsl:∀ x∈xs,RSL w x.2.1 x.1.a0e):∃ a cap g,v=.slice a n cap/\n=xs.length/\(xs≠[]->a=some ⟨g,0,none⟩)/\∀ (i:Nat)(hi:i<xs.length),RE w g i xs[i].1 xs[i].2.1 xs[i].2.2:=by
 have hl:=h.1;rw[e9H] at hl;have hn:n=xs.length:=by omega
 rcases h.2 with ⟨rfl,h0⟩|⟨g,cap,cur,rfl,hg,hh,h1,h2,h3,h4⟩
 ·subst h0;have:xs=[]:=List.length_eq_zero_iff.1 hn.symm;subst this;exact⟨none,0,0,rfl,rfl,fun h=>absurd rfl h,fun i hi=>by simp at hi⟩
 ·refine⟨some ⟨g,0,none⟩,cap,g,rfl,hn,fun _=>rfl,fun i hi=>?_⟩
  have key:∀ (j:Nat) (u:Value),j<6->(c7a xs[i])[j]?=some u->w.cell? ⟨g,i*6+j,none⟩=some u:=by
   intro j u hj hu
   have e1:(xs.flatMap c7a)[i*6+j]?=some u:=by
    have hsplit:xs=xs.take i++xs[i] :: xs.drop (i+1):=by rw[List.getElem_cons_drop,List.take_append_drop]
    rw[hsplit,List.flatMap_append,List.flatMap_cons];have hlen:((xs.take i).flatMap c7a).length=i*6:=by rw[e9H,List.length_take_of_le (by omega)]
    rw[List.getElem?_append_right (by omega),hlen,Nat.add_sub_cancel_left,List.getElem?_append_left (by rw[d5V];omega)];exact hu
   have e2:(cur.toList.take (n*6))[i*6+j]?=some u:=by rw[h4];exact e1
   rw[List.getElem?_take_of_lt (by omega)] at e2;simp only[Array.getElem?_toList] at e2;simp[World.cell?,hh,e2]
  exact⟨key 0 _ (by omega) rfl,key 1 _ (by omega) rfl,key 2 _ (by omega) rfl,key 3 _ (by omega) rfl,key 4 _ (by omega) rfl,key 5 _ (by omega) rfl,hsl _ (zg hi)⟩
theorem e5V(d:Nat)(a:Option Addr)(cap E:Nat)(xs:List (Desk.Ent × Nat × Nat))(id:Int)(w:World)(h:RDX w d a cap E xs)(hl:xs.length<=1000):
  Calls Tryz.prog 234 #[.pointer (some ⟨d,0,none⟩),.int .i64 id] w fun e w'=>∃ v,e=.returned v/\w'.ownsRow w.heap.size 58 6 v (d2z id xs).length ((d2z id xs).flatMap c7a)/\Below w.heap.size w w':=by
 obtain⟨i0,hi0,hz0,hz1,hz2⟩:=info_parts e2i;have H:=a0b h;clear h
 go_enter Tryz.func234,Tryz.ntmps234
 go_wp2_with fail
 go_loopw [5,6] (fun v i wx=>∃ k:Nat,k<=xs.length/\i=.int .i64 k/\wx.ownsRow w.heap.size 58 6 v (d2z id (xs.take k)).length ((d2z id (xs.take k)).flatMap c7a)/\Below w.heap.size w wx) (fun _ i _=>xs.length-(intOf i).toNat)
 case atStart=>exact⟨0,Nat.zero_le _,rfl,World.ownsRow_nil _ _ _ _,Below.refl _ _⟩
 case round =>
  obtain⟨k,hk,rfl,hown,hb⟩:=hrel;have hx:=H.out.later hb;have cc:=hx.c;have HOB:=a0b (zA hown hb);have hbs:=hb.size
  have bl:(d2z id (xs.take k)).length<=k:=by
   have:=List.length_filter_le (fun x:Desk.Ent × Nat × Nat=>x.1.id != id) (xs.take k);have:=List.length_take_le k xs;unfold d2z;omega
  by_cases hlt:k<xs.length
  ·obtain rfl:=H.out.at hlt;have hr:=hx.r k hlt;have c0:=hr.c0;have c1:=hr.c1;have c2:=hr.c2;have c3:=hr.c3;have c4:=hr.c4;have c5:=hr.c5;have hi:(k:Int)<(xs.length:Int):=by omega
   have ed:d2z id (xs.take (k+1))=d2z id (xs.take k)++if xs[k].1.id != id then [xs[k]] else []:=by
    unfold d2z;rw[List.take_succ_eq_append_getElem hlt,List.filter_append]
    cases hq:(xs[k].1.id != id) <;> simp[hq]
   have ED:=a0b ed;clear ed hr hx
   cases hq:(xs[k].1.id != id)
   ·have HN:Hid (d2z id (xs.take (k+1))=d2z id (xs.take k)):=by show _=_;rw[ED.out,hq];simp
    clear hown hb
    go_wp2_with fail
    go_roundw
    case rel=>exact⟨k+1,by omega,by go_num,by rw[HN.out];exact HOB.out.1,HOB.out.2⟩
    case measure=>simp[intOf];omega
   ·have HN:Hid (d2z id (xs.take (k+1))=d2z id (xs.take k)++[xs[k]]):=by show _=_;rw[ED.out,hq];simp
    clear hb
    go_wp2_with (first
     |(at_builtin;refine wpList_append_own _ rfl _ _ 34 rfl w.heap.size 58 i0 _ 6 72 Tryz.underlying34 hi0 hz0 hz1 hz2 rfl (by decide) _ _ _ rfl (hown.alloc _) ⟨wr.heap.size,0,none⟩ 1 1 (c7a xs[k]) rfl rfl (World.news_of_block (cs:=(c7a xs[k]).toArray) (a0p wr _)) (by simp[c7a,Value.oneCell']) (by unfold maxLen;omega) (by omega) (by simp;omega) ?_;intro v' w' hown' hgrow _))
    have hb':Below w.heap.size w w':=(HOB.out.2.alloc hbs _).grown hgrow (by simp;omega) (fun k hk=>d0G HOB.out.1 hk)
    have HK:Hid (w'.ownsRow w.heap.size 58 6 v' (d2z id (xs.take (k+1))).length ((d2z id (xs.take (k+1))).flatMap c7a)):=by
     show w'.ownsRow _ _ _ _ _ _;rw[HN.out,List.flatMap_append,List.length_append]
     simpa using hown'
    have HB2:=a0b hb';clear hown' hgrow hb' hown HOB c0 c1 c2 c3 c4 c5 cc
    go_wp2_with fail
    go_roundw
    case rel=>exact⟨k+1,by omega,by go_num,HK.out,HB2.out⟩
    case measure=>simp[intOf];omega
  ·have e:xs.take k=xs:=List.take_of_length_le (by omega);have hi:¬ (k:Int)<(xs.length:Int):=by omega
   rw[e] at HOB;clear hown hb hx e
   go_wp2_with fail
   go_ret;exact⟨_,rfl,HOB.out.1,HOB.out.2⟩
def c4x(t:ByteArray × Int):List Value:=[.string t.1,.int .i64 t.2]
structure RD(w:World)(d:Nat)(ts:List (ByteArray × Int))(xs:List (Desk.Ent × Nat × Nat))(given now:Int)(F:List Nat):Prop where
 tv:∃ v,w.cell? ⟨d,0,none⟩=some v/\w.ownsRow 0 315 2 v ts.length (ts.flatMap c4x)/\∀ k,v.ownBlock=some k->k∈F/\k≠d
 ev:∃ v,w.cell? ⟨d,1,none⟩=some v/\w.ownsRow 0 58 6 v xs.length (xs.flatMap c7a)/\∀ k,v.ownBlock=some k->k∈F/\k≠d
 c2:w.cell? ⟨d,2,none⟩=some (.int .i64 given)
 c3:w.cell? ⟨d,3,none⟩=some (.int .i64 now)
 fz:∀ o,w.frozen? ⟨d,o,none⟩=false
 dF:d∈F
 sp:∀ x∈xs,RSL w x.2.1 x.1.a0e/\x.2.1 ∉ F/\x.2.1<w.heap.size
theorem RD.dx{xs:List (Desk.Ent × Nat × Nat)}(h:RD w d ts xs given now F):∃ a cap E,RDX w d a cap E xs:=by
 obtain⟨v,c,ho,_⟩:=h.ev;obtain⟨a,cap,g,rfl,hn,ha,hr⟩:=e1F ho (fun x hx=>(h.sp x hx).1);exact⟨a,cap,g,c,ha,hr⟩
theorem f5K(ts:List (ByteArray × Int)):(ts.flatMap c4x).length=ts.length*2:=by
 induction ts with
 |nil=>rfl
 |cons x xs ih=>simp only[List.flatMap_cons,List.length_append,List.length_cons,ih,c4x,List.length_nil];omega
theorem RD.dt{xs:List (Desk.Ent × Nat × Nat)}(h:RD w d ts xs given now F):∃ a cap G,RDT w d a cap G ts:=by
 obtain⟨v,c,ho,_⟩:=h.tv;have hl:=ho.1;rcases ho.2 with ⟨rfl,h0⟩|⟨g,cap,cur,rfl,hg,hh,h1,h2,h3,h4⟩
 ·have:ts=[]:=List.length_eq_zero_iff.1 h0;subst this;exact⟨none,0,0,c,fun h=>absurd rfl h,fun i hi=>by simp at hi⟩
 ·refine⟨some ⟨g,0,none⟩,cap,g,c,fun _=>rfl,fun i hi=>?_⟩
  have key:∀ (j:Nat) (u:Value),j<2->(c4x ts[i])[j]?=some u->w.cell? ⟨g,i*2+j,none⟩=some u:=by
   intro j u hj hu
   have e1:(ts.flatMap c4x)[i*2+j]?=some u:=by
    have hsplit:ts=ts.take i++ts[i] :: ts.drop (i+1):=by rw[List.getElem_cons_drop,List.take_append_drop]
    rw[hsplit,List.flatMap_append,List.flatMap_cons];have hlen:((ts.take i).flatMap c4x).length=i*2:=by rw[f5K,List.length_take_of_le (by omega)]
    rw[List.getElem?_append_right (by omega),hlen,Nat.add_sub_cancel_left,List.getElem?_append_left (by simp[c4x];omega)];exact hu
   have e2:(cur.toList.take (ts.length*2))[i*2+j]?=some u:=by rw[h4];exact e1
   rw[List.getElem?_take_of_lt (by omega)] at e2;simp only[Array.getElem?_toList] at e2;simp[World.cell?,hh,e2]
  exact⟨key 0 _ (by omega) rfl,key 1 _ (by omega) rfl⟩
theorem a1i{base size:Nat}{xs:List Value}(h:w.ownsRow base e size v n xs)(k:Off G w w')(hg:∀ b,v.ownBlock=some b->b ∉ G):w'.ownsRow base e size v n xs:=by
 refine⟨h.1,?_⟩;rcases h.2 with h0|⟨g,cap,cur,hv,hb,hh,rest⟩
 ·exact .inl h0
 ·refine .inr ⟨g,cap,cur,hv,hb,?_,rest⟩
  have hlt:g<w.heap.size:=by
   by_cases hx:g<w.heap.size
   ·exact hx
   ·rw[Array.getElem?_eq_none (by omega)] at hh;cases hh
  rw[k.block g hlt (hg g (by rw[hv];rfl))];exact hh
theorem RD.off{xs:List (Desk.Ent × Nat × Nat)}(h:RD w d ts xs given now F)(k:Off G w w')(hF:∀ x∈F,x ∉ G)(hS:∀ x∈xs,x.2.1 ∉ G):RD w' d ts xs given now F:=by
 have hd:d ∉ G:=hF d h.dF;obtain⟨v1,a1,a2,a3⟩:=h.tv;obtain⟨v2,b1,b2,b3⟩:=h.ev
 exact⟨⟨v1,k.cell hd a1,a1i a2 k (fun b hb=>hF b (a3 b hb).1),a3⟩,⟨v2,k.cell hd b1,a1i b2 k (fun b hb=>hF b (b3 b hb).1),b3⟩,k.cell hd h.c2,k.cell hd h.c3,
  fun o=>(k.frozen hd (World.block_lt_of_cell? _ _ h.c2)).trans (h.fz o),h.dF,fun x hx=>⟨(h.sp x hx).1.off k (hS x hx),(h.sp x hx).2.1,Nat.lt_of_lt_of_le (h.sp x hx).2.2 k.size⟩⟩
def e3T(err n:Int):Value:=.agg #[.int .i64 err,.int .i64 0,.int .i64 n,.slice none 0 0,.slice none 0 0,.slice none 0 0,.slice none 0 0]
def a2i(w:World)(d o:Nat)(v:Value)(l':List Hp.Hi)(w':World):Prop :=
 ∃ v',HP w' d o v' l'/\(∀ b,v'.ownBlock=some b->v.ownBlock=some b\/w.heap.size<=b)/\Off (d :: v.ownBlock.toList) w w'/\(∀ o',o'≠o->w'.cell? ⟨d,o',none⟩=w.cell? ⟨d,o',none⟩)/\∀ o',w'.frozen? ⟨d,o',none⟩=w.frozen? ⟨d,o',none⟩
theorem b8B{m:List Hp.Hi}(h:m.length=n+1)(a b c:Value):(((m.flatMap a9Z).set (n*3) a).set (n*3+1) b).set (n*3+2) c=(m.take n).flatMap a9Z++[a,b,c]:=by
 have hn:n<m.length:=by omega
 have hlen:((m.take n).flatMap a9Z).length=n*3:=by rw[a6R,List.length_take_of_le (by omega)]
 conv=>lhs;rw[a6i hn,List.flatMap_append,List.flatMap_cons]
 rw[List.set_append_right _ _ (by omega),List.set_append_right _ _ (by omega),List.set_append_right _ _ (by omega),hlen];rw[show n*3-n*3=0 from by omega,show n*3+1-n*3=1 from by omega,show n*3+2-n*3=2 from by omega];have e:m.drop (n+1)=[]:=List.drop_eq_nil_of_le (by omega);simp[a9Z,e]
def a9M(w:World)(H p n:Nat)(x:Hp.Hi):World :=
 (((((w.setCell ⟨H,p*3,none⟩ (.int .i64 x.t)).setCell ⟨H,p*3+1,none⟩ (.int .i64 x.n)).setCell ⟨H,p*3+2,none⟩ (.pointer (some ⟨x.v,0,none⟩))).setCell ⟨H,n*3,none⟩ (.int .i64 0)).setCell ⟨H,n*3+1,none⟩ (.int .i64 0)).setCell ⟨H,n*3+2,none⟩ (.pointer none)
theorem b5u(w:World)(H p n:Nat)(x:Hp.Hi):Off [H] w (a9M w H p n x):=(a5u _ _ _ _ _ _ _ _).trans (a5u _ _ _ _ _ _ _ _)
theorem HP.a9M{p:Nat}{l:List Hp.Hi}(h:HP w d o (.slice (some ⟨H,0,none⟩) l.length cap) l)(hn:l.length=n+1)(hp:p<l.length):
  HP ((a9M w H p n (Hp.at_ l n)).setCell ⟨d,o,none⟩ (.slice (some ⟨H,0,none⟩) n cap)) d o (.slice (some ⟨H,0,none⟩) (Hp.cut l p).length cap) (Hp.cut l p):=by
 have hne:d≠H:=fun e=>h.ne (by rw[e];rfl)
 have k:=b5u w H p n (Hp.at_ l n);have c1:=k.cell (by simpa using hne) h.c;have a:=h.put hp (Hp.at_ l n);have e:Hp.cut l p=(l.set p (Hp.at_ l n)).take n:=by unfold Hp.cut;rw[hn];rfl
 have el:(Hp.cut l p).length=n:=by rw[Hp.a4y,hn];rfl
 have hm:(l.set p (Hp.at_ l n)).length=n+1:=by simpa using hn
 have b:=(((a.own.stored (n*3) (.int .i64 0)).1.stored (n*3+1) (.int .i64 0)).1.stored (n*3+2) (.pointer none)).1;rw[b8B hm,hm,<- e] at b;have b2:=ownsRow_pop (by rw[a6R,el]) b;refine⟨?_,?_,h.ne,?_⟩
 ·rw[el];exact zm _ _ _ c1
 ·rw[el];exact a1i b2 (Off.set0 d _ o _) (fun x hx=>by simp;rintro rfl;exact hne (by simpa[Value.ownBlock] using hx.symm))
 ·exact (zF ..).trans ((k.frozen (by simpa using hne) (World.block_lt_of_cell? _ _ h.c)).trans h.fz)
theorem a2i.of{l1 l':List Hp.Hi}(hv:v.ownBlock=some H)(hd:d<w.heap.size)(hne:d≠H)(h1:Off [d,H] w w1)(hc:∀ o',o'≠o->w1.cell? ⟨d,o',none⟩=w.cell? ⟨d,o',none⟩)(hf:∀ o',w1.frozen? ⟨d,o',none⟩=w.frozen? ⟨d,o',none⟩)(h2:a3b w1 w2 d o H l1.length cap l1 l'):a2i w d o v l' w2:=by
 have hb:w2.heap[d]?=w1.heap[d]?:=h2.off.block d (zL hd h1.size) (by simpa using hne);refine⟨_,h2.hp,fun b hb=>.inl (by rw[hv];exact hb),?_,fun o' ho=>(zo hb).trans (hc o' ho),fun o'=>?_⟩
 ·rw[hv];exact h1.trans' h2.off (fun x hx=>.inl (by simp at hx;simp[hx]))
 ·exact (World.frozen?_of_block hb).trans (hf o')
theorem b0y(d o:Nat)(v:Value)(l:List Hp.Hi)(p:Nat)(w:World)(h:HP w d o v l)(hh:Hp.a6r l)(hp:p<l.length)(hl:l.length<=1000):
  Calls Tryz.prog 204 #[.pointer (some ⟨d,o,none⟩),.int .i64 p] w fun e w'=>e=.returned (.tuple #[])/\∃ l',a2i w d o v l' w'/\Hp.a6r l'/\l.Perm (Hp.at_ l p :: l'):=by
 obtain⟨H,cap,rfl⟩:=h.form (by omega);obtain⟨n,hn⟩:∃ n,l.length=n+1:=⟨l.length-1,by omega⟩;have c:=h.c;have hne:d≠H:=fun e=>h.ne (by rw[e];rfl)
 obtain⟨a0,a1,a2⟩:=h.at hp;obtain⟨b0,b1,b2⟩:=h.at (i:=n) (by omega);have fz:∀ k,w.frozen? ⟨H,k,none⟩=false:=fun k=>h.own.frozenAt k
 have fd:=h.fz;have CL:=a0b (h.a9M hn hp);have e0:=(h.put hp (Hp.at_ l n)).at (i:=n) (by simp;omega);have ee:Hp.at_ (l.set p (Hp.at_ l n)) n=Hp.at_ l n:=by rw[Hp.b7r];split <;> rfl
 rw[ee] at e0;obtain⟨y0,y1,y2⟩:=e0;clear ee;have i1:(p:Int)<(l.length:Int):=by omega
 have HH:=a0b h;clear h;rw[hn] at c i1;generalize hx:Hp.at_ l n=x at *
 go_enter Tryz.func204,Tryz.ntmps204
 go_upto_region 1 with fail
 go_big_region
 have o1:Off [H] w (((w.setCell ⟨H,p*3,none⟩ (.int .i64 x.t)).setCell ⟨H,p*3+1,none⟩ (.int .i64 x.n)).setCell ⟨H,p*3+2,none⟩ (.pointer (some ⟨x.v,0,none⟩))):=a5u _ _ _ _ _ _ _ _;have c1:=o1.cell (by simpa using hne) c;have fd1:=(o1.frozen (o:=o) (by simpa using hne) (World.block_lt_of_cell? _ _ c)).trans fd;have fz1:∀ k,(((w.setCell ⟨H,p*3,none⟩ (.int .i64 x.t)).setCell ⟨H,p*3+1,none⟩ (.int .i64 x.n)).setCell ⟨H,p*3+2,none⟩ (.pointer (some ⟨x.v,0,none⟩))).frozen? ⟨H,k,none⟩=false:=fun k=>by simp[World.frozen?_setCell,fz]
 unfold a9M at CL;generalize hX:(((w.setCell ⟨H,p*3,none⟩ (.int .i64 x.t)).setCell ⟨H,p*3+1,none⟩ (.int .i64 x.n)).setCell ⟨H,p*3+2,none⟩ (.pointer (some ⟨x.v,0,none⟩)))=X at *;clear hX;have o2:=a5u X H (n*3) (n*3+1) (n*3+2) (.int .i64 0) (.int .i64 0) (.pointer none);have c2:=o2.cell (by simpa using hne) c1;have fd2:=(o2.frozen (o:=o) (by simpa using hne) (World.block_lt_of_cell? _ _ c1)).trans fd1
 go_upto_region 3 with fail
 generalize hY:((X.setCell ⟨H,n*3,none⟩ (.int .i64 0)).setCell ⟨H,n*3+1,none⟩ (.int .i64 0)).setCell ⟨H,n*3+2,none⟩ (.pointer none)=Y at *;clear hY
 have hcap:n+1<=cap:=by
  have h:=HH.out.own.2;rcases h with ⟨h0,_⟩|⟨g,cap',cur,hv,_,_,h1,_⟩
  ·cases h0
  ·cases hv;omega
 have hcap2:(n:Int)<=(cap:Int):=by omega
 have oo:Off [d,H] w (Y.setCell ⟨d,o,none⟩ (.slice (some ⟨H,0,none⟩) n cap)):=((o1.trans o2).mono (by simp)).setCell (.inl (by simp)) _ _;have hdl:d<w.heap.size:=World.block_lt_of_cell? _ _ c
 have hcc:∀ o',o'≠o->(Y.setCell ⟨d,o,none⟩ (.slice (some ⟨H,0,none⟩) n cap)).cell? ⟨d,o',none⟩=w.cell? ⟨d,o',none⟩:=fun o' ho =>
  (zS _ _ _ _ (by have:=ho;simp)).trans (zo ((o1.trans o2).block d hdl (by simpa using hne)))
 have hff:∀ o',(Y.setCell ⟨d,o,none⟩ (.slice (some ⟨H,0,none⟩) n cap)).frozen? ⟨d,o',none⟩=w.frozen? ⟨d,o',none⟩:=fun o' =>
  (zF ..).trans (World.frozen?_of_block ((o1.trans o2).block d hdl (by simpa using hne)))
 have OO:=a0b (zA oo (zA hcc hff));have el:(Hp.cut l p).length=n:=by rw[Hp.a4y,hn];rfl
 clear oo hcc hff o1 o2 c c1 a0 a1 a2 b0 b1 b2 y0 y1 y2 fz fz1 fd fd1
 by_cases hlt:p<n
 ·have hlt':(p:Int)<(n:Int):=by omega
  go_upto_region 5 with fail
  generalize hZ:Y.setCell ⟨d,o,none⟩ (.slice (some ⟨H,0,none⟩) n cap)=Z at *;have SK:=a0b (c2m d o H cap (Hp.cut l p) p Z.drew (CL.out.off (G:=[]) (Off.refl _ _).drew (by simp) (by simp)) (by omega) (Hp.c3x hh (by omega)) (by omega));clear hZ hcap hcap2 c2 fd2
  go_wp2_with fail
  refine SK.out.mono ?_;rintro e w4 ⟨rfl,l2,t2,r2⟩;have T2:=a0b t2;have hl2:=t2.len;have RS:=a0b (b6g d o H cap l2 p w4 (by rw[hl2];exact t2.hp) (by omega) r2 (by omega));clear t2 r2 SK
  go_wp2_with fail
  refine RS.out.mono ?_;rintro e w5 ⟨rfl,l3,t3,r3⟩
  have HF:Hid (∃ l',a2i w d o (.slice (some ⟨H,0,none⟩) l.length cap) l' w5/\Hp.a6r l'/\l.Perm (Hp.at_ l p :: l')):=by
   refine⟨l3,a2i.of (l1:=Hp.cut l p) rfl hdl hne OO.out.1 OO.out.2.1 OO.out.2.2 ⟨by rw[el,<- el,<- hl2];exact t3.hp,by rw[t3.len,hl2],t3.perm.trans T2.out.perm,((Off.refl [H] Z).drew).trans (T2.out.off.trans t3.off)⟩,r3,?_⟩;exact (Hp.b7j hp).trans ((t3.perm.trans T2.out.perm).symm.cons _)
  clear t3 r3 T2 RS
  go_wp2_with fail
  go_end0
  exact⟨rfl,HF.out⟩
 ·have hlt':¬ ((p:Int)<(n:Int)):=by omega
  have hpn:p=n:=by omega
  have HF:Hid (∃ l',a2i w d o (.slice (some ⟨H,0,none⟩) l.length cap) l' (Y.setCell ⟨d,o,none⟩ (.slice (some ⟨H,0,none⟩) n cap)).drew/\Hp.a6r l'/\l.Perm (Hp.at_ l p :: l')):=by
   refine⟨Hp.cut l p,a2i.of (l1:=Hp.cut l p) rfl hdl hne OO.out.1 OO.out.2.1 OO.out.2.2 ⟨CL.out.off (G:=[]) (Off.refl _ _).drew (by simp) (by simp),rfl,.refl _,(Off.refl _ _).drew⟩,?_,Hp.b7j hp⟩;rw[hpn,show n=l.length-1 by omega];exact Hp.c3y hh
  clear CL OO hn hx hpn el
  go_wp2_with fail
  go_end0
  exact⟨rfl,HF.out⟩
def g3V(w:World)(d:Nat)(ts:List (ByteArray × Int))(xs:List (Desk.Ent × Nat × Nat))(given now:Int)(F:List Nat)(w':World):Prop :=
 ∃ F',RD w' d ts xs given now F'/\(∀ k∈F',k∈F\/w.heap.size<=k)/\Off F w w'
theorem RD.set2{xs:List (Desk.Ent × Nat × Nat)}(h:RD w d ts xs given now F)(g:Int):RD (w.setCell ⟨d,2,none⟩ (.int .i64 g)) d ts xs g now F:=by
 obtain⟨v1,a1,a2,a3⟩:=h.tv;obtain⟨v2,b1,b2,b3⟩:=h.ev;have k:Off [d] w (w.setCell ⟨d,2,none⟩ (.int .i64 g)):=Off.set0 ..
 exact⟨⟨v1,(zS _ _ _ _ (by simp)).trans a1,a1i a2 k (fun b hb=>by simpa using (a3 b hb).2),a3⟩,⟨v2,(zS _ _ _ _ (by simp)).trans b1,a1i b2 k (fun b hb=>by simpa using (b3 b hb).2),b3⟩,World.cell?_setCell_same _ _ _ h.c2,(zS _ _ _ _ (by simp)).trans h.c3,
  fun o=>(zF ..).trans (h.fz o),h.dF,fun x hx=>⟨(h.sp x hx).1.off k (by simp;intro e;exact (h.sp x hx).2.1 (e ▸ h.dF)),(h.sp x hx).2.1,Nat.lt_of_lt_of_le (h.sp x hx).2.2 k.size⟩⟩
theorem c7O{base size:Nat}{xs:List Value}(h:w.ownsRow base e size v n xs)(hb:v.ownBlock=some b):b<w.heap.size:=by
 rcases h.2 with ⟨rfl,_⟩|⟨g,cap,cur,rfl,_,hh,_⟩
 ·simp[Value.ownBlock] at hb
 ·simp[Value.ownBlock] at hb;subst hb
  by_cases hx:g<w.heap.size
  ·exact hx
  ·rw[Array.getElem?_eq_none (by omega)] at hh;cases hh
theorem Off.grown{w'':World}{row:Option Nat}(h:Off F w w')(g:w'.grownBy w'' row)(hr:∀ k,row=some k->k∈F\/w.heap.size<=k):Off F w w'' :=
 ⟨g.os.trans h.os,g.tape.trans h.tape,g.output.trans h.output,Nat.le_trans h.size g.size,fun k hk hF=>(g.block k (zL hk h.size) (fun e=>by rcases hr k e.symm with h1|h1;exact hF h1;omega)).trans (h.block k hk hF)⟩
theorem RD.a5d{Y w5:World}{xs:List (Desk.Ent × Nat × Nat)}{g:Nat}{x:Desk.Ent × Nat × Nat}(h:RD Y d ts xs given now F)(cv:Y.cell? ⟨d,1,none⟩=some v)(ho:Y.ownsRow 0 58 6 v xs.length (xs.flatMap c7a))(hvF:∀ k,v.ownBlock=some k->k∈F/\k≠d)(k:Off (v.ownBlock.toList) Y w5)(ho5:w5.ownsRow 0 58 6 (.slice (some ⟨g,0,none⟩) (xs.length+1) cap) (xs.length+1) (xs.flatMap c7a++c7a x))(hg:v.ownBlock=some g\/Y.heap.size<=g)(hx:RSL Y x.2.1 x.1.a0e)(hxF:x.2.1 ∉ F)(hxl:x.2.1<Y.heap.size):
  RD (w5.setCell ⟨d,1,none⟩ (.slice (some ⟨g,0,none⟩) (xs.length+1) cap)) d ts (xs++[x]) given now (g :: F)/\Off (d :: v.ownBlock.toList) Y (w5.setCell ⟨d,1,none⟩ (.slice (some ⟨g,0,none⟩) (xs.length+1) cap)):=by
 obtain⟨v1,a1,a2,a3⟩:=h.tv;have hdl:=World.block_lt_of_cell? _ _ h.c2;have hdl:d<Y.heap.size:=hdl
 have hgd:g≠d:=by
  rcases hg with e|e
  ·exact (hvF g e).2
  ·omega
 have hdv:d ∉ v.ownBlock.toList:=by
  intro e;have:v.ownBlock=some d:=by simpa using e
  exact (hvF d this).2 rfl
 have hv1:∀ b,v1.ownBlock=some b->b ∉ d :: v.ownBlock.toList:=by
  intro b hb e;rcases List.mem_cons.1 e with e|e
  ·exact (a3 b hb).2 e
  ·have e:v.ownBlock=some b:=by simpa using e
   rcases ho.2 with ⟨rfl,_⟩|⟨g',cap',cur,rfl,_,hh,_⟩
   ·simp[Value.ownBlock] at e
   ·simp[Value.ownBlock] at e;subst e;exact c8L a2 hh (by decide) hb
 have hF1:∀ y,y ∉ F->y ∉ d :: v.ownBlock.toList:=by
  intro y hy e;rcases List.mem_cons.1 e with rfl|e
  ·exact hy h.dF
  ·exact hy (hvF y (by simpa using e)).1
 have k1:Off (d :: v.ownBlock.toList) Y (w5.setCell ⟨d,1,none⟩ (.slice (some ⟨g,0,none⟩) (xs.length+1) cap)):=(k.mono (by intro y hy;exact List.mem_cons_of_mem _ hy)).setCell (.inl (by simp)) _ _
 have ksp:∀ y∈xs++[x],RSL Y y.2.1 y.1.a0e/\y.2.1 ∉ F/\y.2.1<Y.heap.size:=by
  intro y hy;rcases List.mem_append.1 hy with hy|hy
  ·exact h.sp y hy
  ·have:y=x:=by simpa using hy
   subst this;exact⟨hx,hxF,hxl⟩
 have cd:∀ o u,Y.cell? ⟨d,o,none⟩=some u->o≠1->(w5.setCell ⟨d,1,none⟩ (.slice (some ⟨g,0,none⟩) (xs.length+1) cap)).cell? ⟨d,o,none⟩=some u:=by
  intro o u hu ho1;exact (zS _ _ _ _ (by simp)).trans (k.cell hdv hu)
 refine⟨⟨⟨v1,cd 0 _ a1 (by omega),a1i a2 k1 hv1,fun b hb=>⟨List.mem_cons_of_mem _ (a3 b hb).1,(a3 b hb).2⟩⟩,⟨_,World.cell?_setCell_same _ _ _ (k.cell hdv cv),?_,?_⟩,cd 2 _ h.c2 (by omega),cd 3 _ h.c3 (by omega),fun o=>(zF ..).trans ((k.frozen hdv hdl).trans (h.fz o)),List.mem_cons_of_mem _ h.dF,?_⟩,k1⟩
 ·rw[List.flatMap_append,List.length_append];have e1:([x].flatMap c7a)=c7a x:=by simp
  rw[e1];exact a1i ho5 (Off.set0 ..) (fun b hb=>by simp[Value.ownBlock] at hb;subst hb;simpa using hgd)
 ·intro b hb;simp[Value.ownBlock] at hb;subst hb;exact⟨by simp,hgd⟩
 ·intro y hy;obtain⟨y1,y2,y3⟩:=ksp y hy;refine⟨y1.off k1 (hF1 _ y2),fun e=>?_,Nat.lt_of_lt_of_le y3 k1.size⟩;rcases List.mem_cons.1 e with e|e
  ·rcases hg with e2|e2
   ·exact y2 (e ▸ (hvF g e2).1)
   ·omega
  ·exact y2 e
theorem c3a:(Tryz.prog.info? 286).map (fun i=>(i.zero,i.size,i.bytes))=some (some (.agg #[.int .i64 0,.int .i64 0,.pointer none]),3,24):=by kernel_rfl
theorem c3d(d o:Nat)(v:Value)(l:List Hp.Hi)(x:Hp.Hi)(w:World)(h:HP w d o v l)(hh:Hp.a6r l)(hl:l.length<=900):
  Calls Tryz.prog 198 #[.pointer (some ⟨d,o,none⟩),.int .i64 x.t,.int .i64 x.n,.pointer (some ⟨x.v,0,none⟩)] w fun e w'=>e=.returned (.tuple #[])/\∃ l',a2i w d o v l' w'/\Hp.a6r l'/\l'.Perm (l++[x]):=by
 obtain⟨i0,hi0,hz0,hz1,hz2⟩:=info_parts c3a;have c:=h.c;have fd:=h.fz;have H:=a0b h;clear h
 go_enter Tryz.func198,Tryz.ntmps198
 have hdl:d<w.heap.size:=World.block_lt_of_cell? _ _ c;have hdv:d ∉ v.ownBlock.toList:=by intro e;exact H.out.ne (by simpa using e)
 go_wp2_with (first
  |(at_builtin;refine wpList_append_lies _ rfl _ _ 140 rfl 0 286 i0 _ 3 24 Tryz.underlying140 hi0 hz0 hz1 hz2 rfl (by decide) _ _ _ rfl (H.out.own.alloc _) ⟨w.heap.size,0,none⟩ 1 1 (a9Z x) rfl rfl (World.news_of_block (cs:=(a9Z x).toArray) (a0p w _)) (by simp[a9Z,Value.oneCell']) (by omega) (by unfold maxLen;omega) (by omega) (by simp) (w.heap.size+1) (by simp) ?_;intro g cap w1 hown hgrow hat hlt;have kk:Off (v.ownBlock.toList) w w1:=Off.grown ((Off.refl _ w).alloc _) hgrow (fun k hk=>.inl (Option.mem_toList.2 hk));have z1:=kk.cell hdv c;have z2:=(kk.frozen (o:=o) hdv hdl).trans fd;clear hgrow))
 have hgd:d≠g:=by
  rcases hat with e|e
  ·rintro rfl;exact H.out.ne e
  ·omega
 have hz:HP (w1.setCell ⟨d,o,none⟩ (.slice (some ⟨g,0,none⟩) (l.length+1) cap)) d o (.slice (some ⟨g,0,none⟩) (l++[x]).length cap) (l++[x]):=by
  have el:(l++[x]).length=l.length+1:=by simp
  rw[el];refine⟨zm _ _ _ z1,?_,fun e=>hgd (by simpa[Value.ownBlock] using e.symm),(zF ..).trans z2⟩;rw[el,List.flatMap_append];have e2:[x].flatMap a9Z=a9Z x:=by simp
  rw[e2];exact a1i hown (Off.set0 d _ o _) (fun b hb=>by simp;rintro rfl;exact hgd (by simpa[Value.ownBlock] using hb.symm))
 have RS:=a0b (b6g d o g cap (l++[x]) l.length _ hz (by simp) (Hp.c2v hh) (by simp;omega));have KK:=a0b (zA kk hat);clear hz hown kk hat z1 z2 fd c;refine RS.out.mono ?_;rintro e w5 ⟨rfl,l',t',r'⟩
 have HF:Hid (∃ l',a2i w d o v l' w5/\Hp.a6r l'/\l'.Perm (l++[x])):=by
  refine⟨l',⟨_,t'.hp,fun b hb=>?_,?_,fun o' ho=>?_,fun o'=>?_⟩,r',t'.perm⟩
  ·have:g=b:=by simpa[Value.ownBlock] using hb
   subst this;rcases KK.out.2 with e|e
   ·exact .inl e
   ·exact .inr (by omega)
  ·refine ((KK.out.1.mono (by simp +contextual)).setCell (.inl (by simp)) o _).trans' t'.off (fun k hk=>?_);have:k=g:=by simpa using hk
   subst this;rcases KK.out.2 with e|e
   ·exact .inl (List.mem_cons_of_mem _ (Option.mem_toList.2 e))
   ·exact .inr (by omega)
  ·have b5:=t'.off.block d (by have:=KK.out.1.size;simp;omega) (by simpa using hgd);exact (zo b5).trans ((zS _ _ _ _ (by have:=ho;simp)).trans (zo (KK.out.1.block d hdl hdv)))
  ·have b5:=t'.off.block d (by have:=KK.out.1.size;simp;omega) (by simpa using hgd);exact (World.frozen?_of_block b5).trans ((zF ..).trans (World.frozen?_of_block (KK.out.1.block d hdl hdv)))
 clear RS KK t' r'
 go_wp2_with fail
 go_end0
 exact⟨rfl,HF.out⟩
def a3z{α:Type}(p:α->Bool):List α->Int->Int
 |[],_=>-1
 |x :: r,i=>if p x then i else a3z p r (i+1)
theorem a7F{α:Type}(p:α->Bool):∀ (l:List α)(i:Int),(a3z p l i=-1/\∀ x∈l,p x=false)\/∃ (k:Nat)(h:k<l.length),a3z p l i=i+k/\p l[k]=true/\∀ (j:Nat)(hj:j<k),p (l[j]'(by omega))=false
 |[],i=>.inl ⟨rfl,fun x hx=>by simp at hx⟩
 |x :: r,i=>by
  cases hp:p x
  ·rcases a7F p r (i+1) with ⟨h1,h2⟩|⟨k,h,h1,h2,h3⟩
   ·exact .inl ⟨by simp[a3z,hp,h1],fun y hy=>by rcases List.mem_cons.1 hy with rfl|hy;exact hp;exact h2 y hy⟩
   ·refine .inr ⟨k+1,by simp;omega,by simp[a3z,hp,h1];omega,by simpa using h2,fun j hj=>?_⟩
    cases j with
    |zero=>simpa using hp
    |succ j=>simpa using h3 j (by omega)
  ·exact .inr ⟨0,by simp,by simp[a3z,hp],by simpa using hp,fun j hj=>by omega⟩
theorem c5d{α:Type}(p:α->Bool)(l:List α):-1<=a3z p l 0/\a3z p l 0<l.length:=by
 rcases a7F p l 0 with ⟨h,_⟩|⟨k,h,e,_⟩
 ·omega
 ·omega
theorem a2i.from{l':List Hp.Hi}(h:a2i w1 d o v l' w2)(k:Below w.heap.size w w1)(hd:d<w.heap.size):a2i w d o v l' w2:=by
 obtain⟨v',h1,h2,h3,h4,h5⟩:=h;refine⟨v',h1,fun b hb=>(h2 b hb).imp id (fun e=>Nat.le_trans k.size e),(Off.of_below k).trans h3,fun o' ho=>(h4 o' ho).trans (zo (k.block d hd)),fun o'=>(h5 o').trans (World.frozen?_of_block (k.block d hd))⟩
theorem c0Y(x:Hp.Hi)(t n:Int)(A B:Nat)(w:World)(ca:w.cell? ⟨A,0,none⟩=some (.int .i64 t))(cb:w.cell? ⟨B,0,none⟩=some (.int .i64 n)):
  Calls Tryz.prog 202 #[.agg #[.int .i64 x.t,.int .i64 x.n,.pointer (some ⟨x.v,0,none⟩)],.pointer (some ⟨A,0,none⟩),.pointer (some ⟨B,0,none⟩)] w fun e w'=>e=.returned (.bool (a8y x t n==0))/\Below w.heap.size w w':=by
 have CM:=a0b (fun w'=>a8e x t n w');have hX:Below w.heap.size w (w.alloc (.cells #[.int .i64 x.t,.int .i64 x.n,.pointer (some ⟨x.v,0,none⟩)] 286)):=(zr _ _).alloc (zq _) _;have xa:=a0a hX ca;have xb:=a0a hX cb;have HX:=a0b hX;clear hX
 go_enter Tryz.func202,Tryz.ntmps202
 go_wp2_with fail
 refine (CM.out _).mono ?_;rintro e w1 ⟨rfl,k1⟩;have HK:=a0b (a0j HX.out k1 (zq _));clear k1 xa xb
 go_wp2_with fail
 go_ret;exact⟨rfl,HK.out⟩
theorem b1U(l:List Hp.Hi)(t n:Int)(v:Value)(A B:Nat)(w:World)(own:w.ownsRow 0 286 3 v l.length (l.flatMap a9Z))(ca:w.cell? ⟨A,0,none⟩=some (.int .i64 t))(cb:w.cell? ⟨B,0,none⟩=some (.int .i64 n))(hl:l.length<=1000):
  Calls Tryz.prog 201 #[v,.func (.func 202) #[] #[.pointer (some ⟨A,0,none⟩),.pointer (some ⟨B,0,none⟩)]] w fun e w'=>e=.returned (.int .i64 (a3z (fun x=>a8y x t n==0) l 0))/\Below w.heap.size w w':=by
 have hv:∃ a cap,v=.slice a l.length cap:=by
  rcases own.2 with ⟨rfl,h⟩|⟨g,cap,_,rfl,_⟩
  ·rw[h];exact⟨_,_,rfl⟩
  ·exact⟨_,_,rfl⟩
 obtain⟨a,cap,rfl⟩:=hv;have CAB:=a0b (zA ca cb);have OWN:=a0b own;clear ca cb own
 go_enter Tryz.func201,Tryz.ntmps201
 go_wp2_with fail
 go_loopw [8] (fun i wx=>∃ k:Nat,k<=l.length/\i=.int .i64 k/\a3z (fun x=>a8y x t n==0) l 0=a3z (fun x=>a8y x t n==0) (l.drop k) k/\Below w.heap.size w wx) (fun i _=>l.length-(intOf i).toNat)
 case atStart=>exact⟨0,Nat.zero_le _,rfl,rfl,Below.refl _ _⟩
 case round =>
  obtain⟨k,hk,rfl,hu,hb⟩:=hrel;have HU:=a0b hu;have HB:=a0b hb
  by_cases hlt:k<l.length
  ·have hi:(k:Int)<(l.length:Int):=by omega
   obtain⟨H,cap',e1⟩:=Joins.ownsRow_form OWN.out (by omega);simp only[Value.slice.injEq,true_and] at e1;obtain⟨rfl,rfl⟩:=e1;have ownr:=a1g OWN.out hb;have a0:=(ownr.cellAt (k*3) (by omega)).trans (a5H hlt (j:=0) (by omega));have a1:=(ownr.cellAt (k*3+1) (by omega)).trans (a5H hlt (j:=1) (by omega));have a2:=(ownr.cellAt (k*3+2) (by omega)).trans (a5H hlt (j:=2) (by omega));simp only[a9Z,List.getElem?_cons_zero,List.getElem?_cons_succ] at a0 a1 a2;have D1:=a0b (c0Y l[k] t n A B wr (a0a hb CAB.out.1) (a0a hb CAB.out.2));have ed:a3z (fun x=>a8y x t n==0) (l.drop k) k=if a8y l[k] t n==0 then (k:Int) else a3z (fun x=>a8y x t n==0) (l.drop (k+1)) ((k+1:Nat):Int):=by rw[List.drop_eq_getElem_cons hlt];rfl
   have ED:=a0b ed;clear ed ownr hb hu
   cases hq:(a8y l[k] t n==0)
   ·have HN:Hid (a3z (fun x=>a8y x t n==0) l 0=a3z (fun x=>a8y x t n==0) (l.drop (k+1)) ((k+1:Nat):Int)):=by show _=_;rw[HU.out,ED.out,hq];rfl
    rw[hq] at D1;clear hq
    go_wp2_with fail
    refine D1.out.mono ?_;rintro e w1 ⟨rfl,k1⟩;have HK:=a0b (a0j HB.out k1 (zq _));clear k1 a0 a1 a2 D1
    go_wp2_with fail
    go_roundw
    case rel=>exact⟨k+1,by omega,by go_num,HN.out,HK.out⟩
    case measure=>simp[intOf];omega
   ·have HN:Hid (a3z (fun x=>a8y x t n==0) l 0=k):=by show _=_;rw[HU.out,ED.out,hq];rfl
    rw[hq] at D1;clear hq
    go_wp2_with fail
    refine D1.out.mono ?_;rintro e w1 ⟨rfl,k1⟩;have HK:=a0b (a0j HB.out k1 (zq _));clear k1 a0 a1 a2 D1
    go_wp2_with fail
    go_ret;exact⟨a1L HN.out.symm,HK.out⟩
  ·have hi:¬ (k:Int)<(l.length:Int):=by omega
   have e:l.drop k=[]:=List.drop_eq_nil_of_le (by omega);have HN:Hid (a3z (fun x=>a8y x t n==0) l 0=-1):=by show _=_;rw[HU.out,e];rfl
   clear hu hb e
   go_wp2_with fail
   go_ret;exact⟨a1L HN.out.symm,HB.out⟩
theorem c0G(d o:Nat)(v:Value)(l:List Hp.Hi)(t n:Int)(w:World)(h:HP w d o v l)(hh:Hp.a6r l)(hl:l.length<=1000):
  Calls Tryz.prog 149 #[.pointer (some ⟨d,o,none⟩),.int .i64 t,.int .i64 n] w fun e w'=>e=.returned (.tuple #[]) /\
   (((∀ x∈l,¬ (x.t=t/\x.n=n))/\Below w.heap.size w w')\/∃ (x:Hp.Hi) (l':List Hp.Hi),x.t=t/\x.n=n/\a2i w d o v l' w'/\Hp.a6r l'/\l.Perm (x :: l')):=by
 have hX:Below w.heap.size w ((w.alloc (.cells #[.int .i64 t] 3)).alloc (.cells #[.int .i64 n] 3)):=((zr _ _).alloc (zq _) _).alloc (by simp) _;have hx:=h.later hX;have c:=hx.c;have xa:((w.alloc (.cells #[.int .i64 t] 3)).alloc (.cells #[.int .i64 n] 3)).cell? ⟨w.heap.size,0,none⟩=some (.int .i64 t):=by simp
 have xb:((w.alloc (.cells #[.int .i64 t] 3)).alloc (.cells #[.int .i64 n] 3)).cell? ⟨w.heap.size+1,0,none⟩=some (.int .i64 n):=by
  have:=a0p (w.alloc (.cells #[.int .i64 t] 3)) (.cells #[.int .i64 n] 3);rw[World.size_alloc] at this;simp only[World.cell?,this];rfl
 have IX:=a0b (b1U l t n v w.heap.size (w.heap.size+1) _ hx.own xa xb hl);have HX:=a0b (zA hX hx);have hdl:d<w.heap.size:=World.block_lt_of_cell? _ _ h.c;have bd:=c5d (fun x=>a8y x t n==0) l;have hq:=a7F (fun x=>a8y x t n==0) l 0;clear hX hx xa xb h;generalize a3z (fun x=>a8y x t n==0) l 0=q at *;have HQ:=a0b hq;clear hq
 go_enter Tryz.func149,Tryz.ntmps149
 go_wp2_with fail
 generalize ((w.alloc (.cells #[.int .i64 t] 3)).alloc (.cells #[.int .i64 n] 3))=X at *;refine IX.out.mono ?_;rintro e w1 ⟨rfl,k1⟩;have H1:=a0b (zA (a0j HX.out.1 k1 (zq _)) (HX.out.2.later k1));clear k1 IX c HX
 by_cases h0:0<=q
 ·obtain⟨k,hk,e1,e2,e3⟩:∃ (k:Nat) (h:k<l.length),q=k/\(a8y l[k] t n==0)=true/\True:=by
   rcases HQ.out with ⟨h,_⟩|⟨k,h,e,e2,_⟩
   ·omega
   ·exact⟨k,h,by omega,e2,trivial⟩
  subst e1;have RM:=a0b (b0y d o v l k w1 H1.out.2 hh hk hl);have HE:=a0b e2;clear e2 e3 HQ
  go_wp2_with fail
  refine RM.out.mono ?_;rintro e w2 ⟨rfl,l',p1,p2,p3⟩
  have HF:Hid (∃ (x:Hp.Hi) (l':List Hp.Hi),x.t=t/\x.n=n/\a2i w d o v l' w2/\Hp.a6r l'/\l.Perm (x :: l')):=by
   have e2:a8y l[k] t n=0:=by simpa using HE.out
   obtain⟨q1,q2⟩:=(b3w _ _ _).1 e2;refine⟨Hp.at_ l k,l',by rw[Hp.a4H hk];exact q1,by rw[Hp.a4H hk];exact q2,p1.from H1.out.1 hdl,p2,p3⟩
  clear p1 p2 p3 RM
  go_wp2_with fail
  go_end0
  exact⟨rfl,.inr HF.out⟩
 ·have HF:Hid (∀ x∈l,¬ (x.t=t/\x.n=n)):=by
   rcases HQ.out with ⟨_,h⟩|⟨k,h,e,_⟩
   ·intro x hx e;have:=h x hx;have e0:=(b3w x t n).2 e;simp[e0] at this
   ·omega
  clear HQ
  go_wp2_with fail
  go_end0
  exact⟨rfl,.inl ⟨HF.out,H1.out.1⟩⟩
end Go.Proofs.YtfigmlfdnickmaaGreatDoor
