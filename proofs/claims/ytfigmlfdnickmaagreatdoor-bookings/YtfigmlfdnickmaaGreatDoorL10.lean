import Derived.Test.YtfigmlfdnickmaaGreatDoorL09
import Derived.Test.YtfigmlfdnickmaaGreatDoorProg
import Derived.Maps.OwnSet
import Derived.Maps.OwnOps
import Derived.Maps.Views
set_option maxRecDepth 100000
set_option maxHeartbeats 8000000
variable{name:ByteArray}{e:Go.Proofs.YtfigmlfdnickmaaGreatDoor.Desk.Ent}{a fr id level long tq x y:Int}{ts:List (ByteArray × Int)}{L:List (Int × Int)}{es:List Go.Proofs.YtfigmlfdnickmaaGreatDoor.Desk.Ent}{fs:List Int}{b i j n sz:Nat}{r:Option Int}{c0 c1 c2 c3 c4 c5 key v:Go.Value}{w w':Go.World}
namespace Go.Proofs.YtfigmlfdnickmaaGreatDoor
open Go Go.Maps
def c6O(o:Option Nat):Value:=.pointer (o.map fun b=>⟨b,0,none⟩)
def b1A(o:Option Nat):DataW Unit:=.lit (.int .i64 (match o with|none=>-1|some b=>(b:Int)))
def c2C:Value->Option (DataW Unit × List MemPlace)
 |.pointer none=>some (b1A none,[])
 |.pointer (some ⟨b,0,none⟩)=>some (b1A (some b),[])
 |_=>none
theorem c4S(o:Option Nat):c2C (c6O o)=some (b1A o,[]):=by cases o <;> rfl
theorem b6i{a b:Option Nat}(h:b1A a=b1A b):a=b:=by
 unfold b1A at h
 cases a <;> cases b <;> simp at h ⊢ <;> omega
theorem c2B{o:Option Nat}{ps:List MemPlace}(h:c2C v=some (b1A o,ps)):v=c6O o:=by
 unfold c2C at h
 split at h
 ·have e:b1A none=b1A o:=congrArg Prod.fst (Option.some.inj h);have:=b6i e;subst this;rfl
 ·rename_i b
  have e:b1A (some b)=b1A o:=congrArg Prod.fst (Option.some.inj h);have:=b6i e;subst this;rfl
 ·cases h
noncomputable def upd(f:Lit->Option Nat)(kl:Lit)(o:Option Nat)(x:Lit):Option Nat:=@ite _ (x=kl) (Classical.propDecidable _) o (f x)
theorem a4f(f:Lit->Option Nat)(kl:Lit)(o:Option Nat):upd f kl o kl=o:=if_pos rfl
theorem a3n(f:Lit->Option Nat){kl x:Lit}(o:Option Nat)(h:x≠kl):upd f kl o x=f x:=if_neg h
def a4N(P:Program)(k:TypeId)(w:World)(b n:Nat)(f:Lit->Option Nat)(sz:Nat):Prop :=
 ∃ D,w.ownsMap P k c2C b n D/\Maps.size D=sz/\(∀ kl,D.atKey kl (b1A none)=b1A (f kl))/\∀ kl,Maps.has D kl=(f kl).isSome
theorem a4N.block{P:Program}{k:TypeId}{f:Lit->Option Nat}(h:a4N P k w b n f sz)(hb:w'.heap[b]?=w.heap[b]?):a4N P k w' b n f sz:=by
 obtain⟨D,⟨es,clock,h1,h2⟩,h3⟩:=h;exact⟨D,⟨es,clock,hb.trans h1,h2⟩,h3⟩
theorem a4N.tight{P:Program}{k:TypeId}{f:Lit->Option Nat}(h:a4N P k w b n f sz):a4N P k w b sz f sz:=by
 obtain⟨D,⟨es,clock,h1,h2,h3,h4⟩,h5,h6⟩:=h;refine⟨D,⟨es,clock,h1,h2,?_,h4⟩,h5,h6⟩;rw[<- h5,h4,Maps.size_eq,length_sorted];simp
theorem a4N.made(P:Program)(k:TypeId)(w:World):a4N P k (w.alloc (.map #[] 0)) w.heap.size 0 (fun _=>none) 0 :=
 ⟨.map [],World.ownsMap_made w P k c2C,rfl,fun _=>rfl,fun _=>rfl⟩
theorem a4N.look{P:Program}{k e t:TypeId}{f:Lit->Option Nat}(h:a4N P k w b n f sz)(K:Keyed P k)(ht:P.underlying t=some (.map k e))(hz:(zeroValue e).run P w=.ok (.pointer none) w){kl:Lit}(hkey:keyOf P k key=some kl):
  (Instr.lookup t (.map (some b)) key false).run P w=.ok (c6O (f kl)) w:=by
 obtain⟨D,h1,_,h3,_⟩:=h;obtain⟨v,ps,hrun,hv⟩:=h1.lookup K ht hz (zd:=b1A none) (zp:=[]) rfl hkey;rw[h3] at hv;rw[hrun,c2B hv]
theorem a4N.len{P:Program}{k e t:TypeId}{f:Lit->Option Nat}(h:a4N P k w b n f sz)(ht:P.underlying t=some (.map k e))(ty:TypeId):(Builtin.len_ #[t] ty #[.map (some b)]).run P w=.ok (.int .i64 sz) w:=by
 obtain⟨D,h1,h2,_⟩:=h;rw[h1.len ht ty,h2]
theorem a4N.put{P:Program}{k:TypeId}{f:Lit->Option Nat}{D:DataW Unit}{kl:Lit}{p:Nat}(K:Keyed P k)(w:World)(hD:w.ownsMap P k c2C b n D)(h:w'.ownsMap P k c2C b (n+1) (D.put kl (b1A (some p))))(hk:WideAt.IsKeyLit kl)(h3:∀ kl,D.atKey kl (b1A none)=b1A (f kl))(h4:∀ kl,Maps.has D kl=(f kl).isSome):
  a4N P k w' b (n+1) (upd f kl (some p)) (if (f kl).isSome then Maps.size D else Maps.size D+1):=by
 refine⟨_,h,?_,fun x=>?_,fun x=>?_⟩
 ·rw[Maps.size_put (hD.tidy K),h4]
 ·by_cases c:x=kl
  ·rw[c,a4f,Maps.atKey_put_same hD.isMap hk]
  ·rw[a3n f _ c,Maps.atKey_put_other c,h3]
 ·by_cases c:x=kl
  ·rw[c,a4f,Maps.has_put_same hD.isMap hk];rfl
  ·rw[a3n f _ c,Maps.has_put_other c,h4]
theorem a4N.del{P:Program}{k:TypeId}{f:Lit->Option Nat}{D:DataW Unit}{kl:Lit}(K:Keyed P k)(w:World)(hD:w.ownsMap P k c2C b n D)(h:w'.ownsMap P k c2C b n (D.del kl))(h3:∀ kl,D.atKey kl (b1A none)=b1A (f kl))(h4:∀ kl,Maps.has D kl=(f kl).isSome):
  a4N P k w' b n (upd f kl none) (Maps.size D-if (f kl).isSome then 1 else 0):=by
 refine⟨_,h,?_,fun x=>?_,fun x=>?_⟩
 ·have:=Maps.size_del (k:=kl) (hD.tidy K);rw[h4] at this;omega
 ·by_cases c:x=kl
  ·rw[c,a4f,Maps.atKey_del_same]
  ·rw[a3n f _ c,Maps.atKey_del_other c,h3]
 ·by_cases c:x=kl
  ·rw[c,a4f,Maps.has_del_same];rfl
  ·rw[a3n f _ c,Maps.has_del_other c,h4]
theorem a4N.dropRun{P:Program}{k e t:TypeId}{f:Lit->Option Nat}(h:a4N P k w b n f sz)(K:Keyed P k)(ht:P.underlying t=some (.map k e)){kl:Lit}(hkey:keyOf P k key=some kl)(ty:TypeId):
  ∃ w',(Builtin.delete_ #[t,k] ty #[.map (some b),key]).run P w=.ok (.tuple #[]) w'/\a4N P k w' b n (upd f kl none) (sz-if (f kl).isSome then 1 else 0)/\w.grownBy w' (some b):=by
 obtain⟨D,h1,h2,h3,h4⟩:=h;obtain⟨w',hrun,r1,r2⟩:=h1.drop K ht hkey ty;refine⟨w',hrun,?_,r2.grown⟩;rw[<- h2];exact a4N.del K w h1 r1 h3 h4
theorem a4N.storeRun{P:Program}{k e t:TypeId}{f:Lit->Option Nat}(h:a4N P k w b n f sz)(K:Keyed P k)(ht:P.underlying t=some (.map k e))(hn:n<maxLen){kl:Lit}(hkey:keyOf P k key=some kl)(hlit:WideAt.IsKeyLit kl)(p:Nat):
  ∃ w',(Instr.mapUpdate t (.map (some b)) key (c6O (some p))).run P w=.ok () w'/\a4N P k w' b (n+1) (upd f kl (some p)) (if (f kl).isSome then sz else sz+1)/\w.grownBy w' (some b):=by
 obtain⟨D,h1,h2,h3,h4⟩:=h;obtain⟨w',hrun,r1,r2⟩:=h1.update K ht hn hkey (c4S (some p));refine⟨w',hrun,?_,r2⟩;rw[<- h2];exact a4N.put K w h1 r1 hlit h3 h4
section
variable {P:Program}(w:World) {ops:Array Oper}{rest:List Oper}{o:Oper}{a:Act}{Q:Exit->Act->World->Prop}
end
theorem a4i{α:Type}{lt:α->α->Prop}(hi:∀ x,¬ lt x x)(ht:∀ x y z,lt x y->lt y z->lt x z):∀ {l m:List α},l.Pairwise lt->m.Pairwise lt->(∀ x,x∈l↔x∈m)->l=m
 |[],[],_,_,_=>rfl
 |[],y :: m,_,_,h=>by have:=(h y).2 (by simp);simp at this
 |x :: l,[],_,_,h=>by have:=(h x).1 (by simp);simp at this
 |x :: l,y :: m,hl,hm,h=>by
  rw[List.pairwise_cons] at hl hm
  have e:x=y:=by
   rcases List.mem_cons.1 ((h x).1 (by simp)) with e|e
   ·exact e
   ·rcases List.mem_cons.1 ((h y).2 (by simp)) with k|k
    ·exact k.symm
    ·exact absurd (ht _ _ _ (hl.1 y k) (hm.1 x e)) (hi x)
  subst e
  congr 1
  refine a4i hi ht hl.2 hm.2 (fun z=>?_);constructor
  ·intro hz;rcases List.mem_cons.1 ((h z).1 (by simp[hz])) with e|e
   ·subst e;exact absurd (hl.1 z hz) (hi z)
   ·exact e
  ·intro hz;rcases List.mem_cons.1 ((h z).2 (by simp[hz])) with e|e
   ·subst e;exact absurd (hm.1 z hz) (hi z)
   ·exact e
namespace Rd
structure a0Y where
 pc:Int
 ev:Int
 acc:List Int
 fr:Int
 mn:Int
 mi:Int
 ti:Int
 un:Int
structure a6s(r:a0Y):Prop where
 pc1:1<=r.pc
 pc3:r.pc<=3
 e1:1<=r.ev
 e2:r.ev<=99
 f0:0<=r.fr
 f1:r.fr<728
 m0:0<=r.mn
 m1:r.mn<1440
 i1:1<=r.mi
 i2:r.mi<=1048320
 t0:0<=r.ti
 t1:r.ti<=99
 u0:0<=r.un
 u1:r.un<728
def has(r:a0Y)(d:Int):Bool :=
 if r.pc=1 then decide ((d-r.fr) % r.ev=0)
 else if r.pc=2 then isd r.acc (d % 7) && decide ((d / 7-r.fr / 7) % r.ev=0)
 else decide (Cal.dT d=Cal.dT r.fr) && decide ((12*Cal.yT d+Cal.mT d-12*Cal.yT r.fr-Cal.mT r.fr) % r.ev=0)
def b4L(r:a0Y)(l:List Int)(d:Int):List Int:=if has r d/\((r.ti=0/\d<=r.un)\/(0<r.ti/\(l.length:Int)<r.ti)) then l++[d] else l
def a4Y(r:a0Y):Nat->Int->List Int->List Int
 |0,_,l=>l
 |k+1,d,l=>a4Y r k (d+1) (b4L r l d)
def a0E(r:a0Y):List Int:=a4Y r (728-r.fr).toNat r.fr []
def a8m(r:a0Y)(d:Int):Bool:=decide (1048320<d*1440+r.mn+r.mi)
def a6W(r:a0Y):Int :=
 if 40<(a0E r).length\/40<r.ti then 11 else if a0E r=[]\/((a0E r).length:Int)<r.ti then 6 else if (a0E r).any (a8m r) then 6 else 0
def a2M(r:a0Y)(l:List Int):List (Int × Int):=l.map fun d=>(d*1440+r.mn,d*1440+r.mn+r.mi)
end Rd
open Go.RowKit
namespace Desk
def a2r(name:ByteArray)(es:List Ent)(a b:Int)(m x:Int):Int:=if a<x/\x<b/\m<a0o name x es then a0o name x es else m
def a1Q(name:ByteArray)(es:List Ent)(a b:Int):Int:=(a2L name es).foldl (a2r name es a b) (a0o name a es)
end Desk
theorem f9U(d:Nat)(a:Option Addr)(cap E:Nat)(es:List Desk.Ent)(name:ByteArray)(fr til:Int)(w:World)(h:RDE w d a cap E es)(hl:es.length<=1000)(hs:∀ e∈es,Desk.Small e):
  Calls Tryz.prog 236 #[.pointer (some ⟨d,0,none⟩),.string name,.int .i64 fr,.int .i64 til] w fun e w'=>e=.returned (.int .i64 (Desk.a1Q name es fr til))/\Below w.heap.size w w':=by
 have ST:=a0b (fun w' (k:Below w.heap.size w w')=>e0b d a cap E es name w' (h.later k) hl hs);have TK:=a0b (fun t w' (k:Below w.heap.size w w')=>e3v d a cap E es name t w' (h.later k) hl hs);have sz:=d4X name es hs;have hpk:Desk.a1Q name es fr til=(Desk.a2L name es).foldl (Desk.a2r name es fr til) (Desk.a0o name fr es):=rfl;rw[hpk];generalize Desk.a2L name es=l at *;have eln:l.length<=100000:=by omega
 clear h hs hpk sz
 go_enter Tryz.func236,Tryz.ntmps236
 go_wp2_with fail
 refine (TK.out _ _ (zr _ _)).mono ?_;rintro e w1 ⟨rfl,hb1⟩;have HB1:=a0b hb1;clear hb1
 go_wp2_with fail
 refine (ST.out _ HB1.out).mono ?_;rintro e w2 ⟨v2,rfl,ho2,hb2⟩;obtain⟨a2,c2,g2,rfl,hn2,ha2,hr2⟩:=e1E ho2;have R2:=a0b (zA ha2 (zA hr2 (a0j HB1.out hb2 (zq _))));clear ST ho2 hb2 ha2 hr2 HB1 hn2
 go_wp2_with fail
 go_loopw [9,11,12] (fun m i _ wx=>∃ j:Nat,j<=l.length/\i=.int .i64 j/\m=.int .i64 ((l.take j).foldl (Desk.a2r name es fr til) (Desk.a0o name fr es))/\Below w2.heap.size w2 wx) (fun _ i _ _=>l.length-(intOf i).toNat)
 case atStart=>exact⟨0,Nat.zero_le _,rfl,rfl,Below.refl _ _⟩
 case round =>
  obtain⟨j,hj,rfl,rfl,hb⟩:=hrel;have hbw:=a0j R2.out.2.2 hb (zq _);have HBW:=a0b hbw;have HB:=a0b hb;clear hbw
  by_cases hjl:j<l.length
  ·obtain rfl:=R2.out.1 (by intro e;simp[e] at hjl);have c0:=a0a hb (R2.out.2.1 j hjl);have hi2:(j:Int)<(l.length:Int):=by omega
   have hst:(l.take (j+1)).foldl (Desk.a2r name es fr til) (Desk.a0o name fr es)=Desk.a2r name es fr til ((l.take j).foldl (Desk.a2r name es fr til) (Desk.a0o name fr es)) l[j]:=by
    rw[List.take_succ_eq_append_getElem hjl,List.foldl_append];rfl
   have HST:=a0b hst;have TK1:=a0b (TK.out l[j]);generalize (l.take j).foldl (Desk.a2r name es fr til) (Desk.a0o name fr es)=m at *;have HPS:Hid (Desk.a2r name es fr til m l[j]=if fr<l[j]/\l[j]<til/\m<Desk.a0o name l[j] es then Desk.a0o name l[j] es else m):=rfl;generalize Desk.a0o name l[j] es=tk at *;clear hst hb
   by_cases h1:fr<l[j]
   ·by_cases h2:l[j]<til
    ·by_cases h3:m<tk
     ·have HE:Hid ((l.take (j+1)).foldl (Desk.a2r name es fr til) (Desk.a0o name fr es)=tk):=by show _=tk;rw[HST.out,HPS.out,if_pos ⟨h1,h2,h3⟩]
      go_wp2_with fail
      refine (TK1.out _ HBW.out).mono ?_;rintro e w4 ⟨rfl,hb4⟩;have HB4:=a0b (a0j HB.out hb4 (zq _));clear hb4 TK1
      go_wp2_with fail
      go_roundw
      case rel=>exact⟨j+1,by omega,by go_num,by rw[HE.out],HB4.out⟩
      case measure=>simp[intOf];omega
     ·have HE:Hid ((l.take (j+1)).foldl (Desk.a2r name es fr til) (Desk.a0o name fr es)=m):=by show _=m;rw[HST.out,HPS.out,if_neg (fun x=>h3 x.2.2)]
      go_wp2_with fail
      refine (TK1.out _ HBW.out).mono ?_;rintro e w4 ⟨rfl,hb4⟩;have HB4:=a0b (a0j HB.out hb4 (zq _));clear hb4 TK1
      go_wp2_with fail
      go_roundw
      case rel=>exact⟨j+1,by omega,by go_num,by rw[HE.out],HB4.out⟩
      case measure=>simp[intOf];omega
    ·have HE:Hid ((l.take (j+1)).foldl (Desk.a2r name es fr til) (Desk.a0o name fr es)=m):=by show _=m;rw[HST.out,HPS.out,if_neg (fun x=>h2 x.2.1)]
     go_wp2_with fail
     go_roundw
     case rel=>exact⟨j+1,by omega,by go_num,by rw[HE.out],HB.out⟩
     case measure=>simp[intOf];omega
   ·have HE:Hid ((l.take (j+1)).foldl (Desk.a2r name es fr til) (Desk.a0o name fr es)=m):=by show _=m;rw[HST.out,HPS.out,if_neg (fun x=>h1 x.1)]
    go_wp2_with fail
    go_roundw
    case rel=>exact⟨j+1,by omega,by go_num,by rw[HE.out],HB.out⟩
    case measure=>simp[intOf];omega
  ·have e:l.take j=l:=List.take_of_length_le (by omega);have hi2:¬ (j:Int)<(l.length:Int):=by omega
   clear hb
   go_wp2_with fail
   go_ret;exact⟨a1L (by first|rfl|rw[e]),HBW.out⟩
namespace Desk
def b5k:List Ent->List Int
 |[]=>[]
 |e :: r=>e.a0e.map (·.2)++b5k r
theorem e4Y(l r:List Ent):b5k (l++r)=b5k l++b5k r:=by
 induction l with
 |nil=>rfl
 |cons e l ih=>simp only[List.cons_append,b5k,ih,List.append_assoc]
def a3O(ts:List (ByteArray × Int))(es:List Ent)(name:ByteArray)(a0c long fr til best s:Int):Int :=
 if s<fr\/til<s+long\/(0<=best/\best<=s) then best else if a1e ts es name a0c [(s,s+long)] then s else best
def a9A(ts:List (ByteArray × Int))(es:List Ent)(name:ByteArray)(a0c long fr til:Int):Int:=(fr :: b5k es).foldl (a3O ts es name a0c long fr til) (-1)
def g0K(es:List Ent):Prop:=∀ e∈es,∀ s∈e.a0e,0<=s.2/\s.2<=2000000
theorem e4X(l:List Ent)(h:∀ e∈l,Small e):(b5k l).length<=100*l.length:=by
 induction l with
 |nil=>simp[b5k]
 |cons e l ih =>
  have i:=ih (fun x hx=>h x (by simp[hx]));have s:=(h e (by simp)).sl;simp only[b5k,List.length_append,List.length_cons,List.length_map];omega
theorem f6a(l:List Ent)(h:g0K l):∀ x∈b5k l,0<=x/\x<=2000000:=by
 induction l with
 |nil=>simp[b5k]
 |cons e l ih =>
  intro x hx;simp only[b5k,List.mem_append,List.mem_map] at hx;rcases hx with ⟨s,hs,rfl⟩|hx
  ·exact h e (by simp) s hs
  ·exact ih (fun e he=>h e (by simp[he])) x hx
end Desk
def d3q(fr:Int)(l:List Desk.Ent)(e:Desk.Ent)(j:Nat):List Int:=fr :: (Desk.b5k l++(e.a0e.take j).map (·.2))
theorem f9W(d:Nat)(a:Option Addr)(cap E:Nat)(es:List Desk.Ent)(at_:Option Addr)(ct G:Nat)(ts:List (ByteArray × Int))(name:ByteArray)(a0c long fr til:Int)(w:World)(h:RDE w d a cap E es)(ht:RDT w d at_ ct G ts)(hl:es.length<=1000)(htl:ts.length<=1000)(hs:∀ e∈es,Desk.Small e)(he:Desk.g0K es)(hu0:0<=a0c)(hu1:a0c<=9)(hl0:0<=long)(hl1:long<=2000000)(hf0:0<=fr)(hf1:fr<=2000000):
  Calls Tryz.prog 237 #[.pointer (some ⟨d,0,none⟩),.string name,.int .i64 a0c,.int .i64 long,.int .i64 fr,.int .i64 til] w fun e w'=>e=.returned (.int .i64 (Desk.a9A ts es name a0c long fr til))/\Below w.heap.size w w':=by
 obtain⟨i0,hi0,hz0,hz1,hz2⟩:=info_parts b1S;have FT:=a0b (fun w' (k:Below w.heap.size w w') B cb L hL hll=>f0u d a cap E es at_ ct G ts name a0c B cb L w' (h.later k) (ht.later k) hL hl htl hs hll hu0 hu1);have H:=a0b h;have HS:=a0b hs;have sz:=Desk.e4X es hs
 have hmem:Hid (∀ x∈fr :: Desk.b5k es,0<=x/\x<=2000000):=by
  intro x hx;rcases List.mem_cons.1 hx with rfl|hx
  ·exact⟨hf0,hf1⟩
  ·exact Desk.f6a es he x hx
 have hfn:Desk.a9A ts es name a0c long fr til=(fr :: Desk.b5k es).foldl (Desk.a3O ts es name a0c long fr til) (-1):=rfl;rw[hfn];obtain⟨l,hl2⟩:∃ l,fr :: Desk.b5k es=l:=⟨_,rfl⟩;have eln:l.length<=100100:=by rw[<- hl2,List.length_cons];omega
 rw[hl2] at hmem ⊢;have HL2:=a0b hl2;clear h ht hs he hfn hl2
 go_enter Tryz.func237,Tryz.ntmps237
 go_wp2_with fail
 have o0:(w.alloc (.cells #[.int .i64 fr] 3)).ownsRow w.heap.size 3 1 (.slice (some ⟨w.heap.size,0,none⟩) 1 1) 1 ([fr].map (Value.int .i64)) :=
  ⟨rfl,.inr ⟨w.heap.size,1,#[.int .i64 fr],rfl,Nat.le_refl _,a0p _ _,Nat.le_refl _,by unfold maxLen;omega,rfl,rfl⟩⟩
 have O0:=a0b (zA o0 ((zr _ w).alloc (zq _) (.cells #[.int .i64 fr] 3)));clear o0
 go_loopw [13,14,15] (fun v i _ wx=>∃ k:Nat,k<=es.length/\i=.int .i64 k/\wx.ownsRow w.heap.size 3 1 v (fr :: Desk.b5k (es.take k)).length ((fr :: Desk.b5k (es.take k)).map (Value.int .i64))/\Below w.heap.size w wx) (fun _ i _ _=>es.length-(intOf i).toNat)
 case atStart=>exact⟨0,Nat.zero_le _,rfl,O0.out.1,O0.out.2⟩
 case round =>
  obtain⟨k,hk,rfl,hown,hb⟩:=hrel;have bl:=List.length_take_le k es;have hx:=H.out.later hb;have cc:=hx.c;have sz2:=Desk.e4X (es.take k) (fun e he=>HS.out e (List.mem_of_mem_take he))
  by_cases hlt:k<es.length
  ·obtain rfl:=H.out.at hlt;obtain⟨B,cp,hr0⟩:=H.out.r k hlt;have c4:=(hr0.later hb).c4;have hsm:=HS.out es[k] (zg hlt);have hi:(k:Int)<(es.length:Int):=by omega
   have e:fr :: Desk.b5k (es.take (k+1))=fr :: (Desk.b5k (es.take k)++es[k].a0e.map (·.2)):=by
    rw[List.take_succ_eq_append_getElem hlt,Desk.e4Y];simp[Desk.b5k]
   have EE:=a0b e;have sl:=hsm.sl;have R0:=a0b hr0;have HO:=a0b (zA hown hb);clear e hr0 hx hsm hown hb
   go_wp2_with fail
   go_loopw [13,15] (fun v i wx=>∃ j:Nat,j<=es[k].a0e.length/\i=.int .i64 j/\wx.ownsRow w.heap.size 3 1 v (d3q fr (es.take k) es[k] j).length ((d3q fr (es.take k) es[k] j).map (Value.int .i64))/\Below w.heap.size w wx) (fun _ i _=>es[k].a0e.length-(intOf i).toNat)
   case atStart=>exact⟨0,Nat.zero_le _,rfl,by rw[d3q];simpa using HO.out.1,HO.out.2⟩
   case round =>
    obtain⟨j,hj,rfl,hown,hb⟩:=hrel;clear cc c4;have cc:=(H.out.later hb).c;have c4:=(R0.out.later hb).c4;have HOB:=a0b (zA hown hb);have hbs2:=hb.size
    by_cases hjl:j<es[k].a0e.length
    ·have r1:=(R0.out.sl.later hb j hjl).2;have hi2:(j:Int)<(es[k].a0e.length:Int):=by omega
     have es1:d3q fr (es.take k) es[k] (j+1)=d3q fr (es.take k) es[k] j++[es[k].a0e[j].2]:=by
      unfold d3q;rw[List.take_succ_eq_append_getElem hjl,List.map_append,List.cons_append,List.append_assoc];rfl
     have ES:=a0b es1
     have eln2:(d3q fr (es.take k) es[k] j).length<=100*k+101:=by
      unfold d3q;have:=List.length_take_le j es[k].a0e;simp only[List.length_cons,List.length_append,List.length_map];omega
     clear es1 hb
     go_wp2_with (first
      |(at_builtin;refine wpList_append_own _ rfl _ _ 38 rfl w.heap.size 3 i0 (.int .i64 0) 1 8 Tryz.underlying38 hi0 hz0 hz1 hz2 rfl (by decide) _ _ _ rfl (hown.alloc _) ⟨wr.heap.size,0,none⟩ 1 1 [.int .i64 es[k].a0e[j].2] rfl rfl (World.news_of_block (cs:=#[.int .i64 es[k].a0e[j].2]) (a0p wr _)) (by simp[Value.oneCell']) (by unfold maxLen;omega) (by omega) (by simp;omega) ?_;intro v' w' hown' hgrow _))
     have hb':Below w.heap.size w w':=(HOB.out.2.alloc hbs2 _).grown hgrow (by simp;omega) (fun k hk=>d0G HOB.out.1 hk)
     have HK:Hid (w'.ownsRow w.heap.size 3 1 v' (d3q fr (es.take k) es[k] (j+1)).length ((d3q fr (es.take k) es[k] (j+1)).map (Value.int .i64))):=by
      show w'.ownsRow _ _ _ _ _ _;rw[ES.out,List.map_append,List.length_append];exact hown'
     have HB2:=a0b hb';clear hown' hgrow hb' hown HOB r1 cc c4
     go_wp2_with fail
     go_roundw
     case rel=>exact⟨j+1,by omega,by go_num,HK.out,HB2.out⟩
     case measure=>simp[intOf];omega
    ·have hi2:¬ (j:Int)<(es[k].a0e.length:Int):=by omega
     have hfin:d3q fr (es.take k) es[k] j=fr :: Desk.b5k (es.take (k+1)):=by
      have et:es[k].a0e.take j=es[k].a0e:=List.take_of_length_le (by omega);rw[EE.out,d3q,et]
     have HK:Hid (wr.ownsRow w.heap.size 3 1 u13 (fr :: Desk.b5k (es.take (k+1))).length ((fr :: Desk.b5k (es.take (k+1))).map (Value.int .i64))):=by
      show wr.ownsRow _ _ _ _ _ _;rw[<- hfin];exact hown
     clear hown hb hfin
     go_wp2_with fail
     go_roundw
     case rel=>exact⟨k+1,by omega,by go_num,HK.out,HOB.out.2⟩
     case measure=>simp[intOf];omega
  ·have e:es.take k=es:=List.take_of_length_le (by omega);have hi:¬ (k:Int)<(es.length:Int):=by omega
   rw[e,HL2.out] at hown;obtain⟨a2,c2,g2,rfl,hn2,ha2,hr2⟩:=e1E hown;have R2:=a0b (zA ha2 (zA hr2 hb));clear hown hb e ha2 hr2 hn2 HL2 hx O0
   go_wp2_with fail
   go_loopw [16,17,18,19] (fun b i _ _ wx=>∃ j:Nat,j<=l.length/\i=.int .i64 j/\b=.int .i64 ((l.take j).foldl (Desk.a3O ts es name a0c long fr til) (-1))/\Below w.heap.size w wx/\∀ (i:Nat) (hi:i<l.length),wx.cell? ⟨g2,i,none⟩=some (.int .i64 l[i])) (fun _ i _ _ _=>l.length-(intOf i).toNat)
   case atStart=>exact⟨0,Nat.zero_le _,rfl,rfl,R2.out.2.2,R2.out.2.1⟩
   case round =>
    obtain⟨j,hj,rfl,rfl,hb,hcell⟩:=hrel;have HBW:=a0b hb;have HC:=a0b hcell;clear hcell
    by_cases hjl:j<l.length
    ·obtain rfl:=R2.out.1 (by intro e;simp[e] at hjl);have c0:=HC.out j hjl;have hi2:(j:Int)<(l.length:Int):=by omega
     have hst:(l.take (j+1)).foldl (Desk.a3O ts es name a0c long fr til) (-1)=Desk.a3O ts es name a0c long fr til ((l.take j).foldl (Desk.a3O ts es name a0c long fr til) (-1)) l[j]:=by
      rw[List.take_succ_eq_append_getElem hjl,List.foldl_append];rfl
     have HST:=a0b hst;have hm:=hmem.out l[j] (zg hjl);generalize (l.take j).foldl (Desk.a3O ts es name a0c long fr til) (-1)=b at *;generalize l[j]=sx at *;have HPS:Hid (Desk.a3O ts es name a0c long fr til b sx=if sx<fr\/til<sx+long\/(0<=b/\b<=sx) then b else if Desk.a1e ts es name a0c [(sx,sx+long)] then sx else b):=rfl;clear hst hb
     by_cases hskip:sx<fr\/til<sx+long\/(0<=b/\b<=sx)
     ·have HE:Hid ((l.take (j+1)).foldl (Desk.a3O ts es name a0c long fr til) (-1)=b):=by show _=b;rw[HST.out,HPS.out,if_pos hskip]
      have hcs:sx<fr\/(¬ sx<fr/\til<sx+long)\/(¬ sx<fr/\¬ til<sx+long/\0<=b/\b<=sx):=by omega
      clear hskip;rcases hcs with q1|⟨q1,q2⟩|⟨q1,q2,q3,q4⟩
      all_goals
       go_wp2_with fail
       go_roundw
       case rel=>exact⟨j+1,by omega,by go_num,by rw[HE.out],HBW.out,HC.out⟩
       case measure=>simp[intOf];omega
     ·have hB:RSL (wr.alloc (.cells #[.int .i64 sx,.int .i64 (sx+long)] 60)) wr.heap.size [(sx,sx+long)]:=by
       intro i hi;have:i=0:=by simpa using hi
       subst this;exact⟨by simp,by simp⟩
      have hbX:Below w.heap.size w (wr.alloc (.cells #[.int .i64 sx,.int .i64 (sx+long)] 60)):=a0j HBW.out ((zr _ _).alloc (zq _) _) (zq _);have FT1:=a0b (FT.out _ hbX wr.heap.size 1 [(sx,sx+long)] hB (by simp));have HBX:=a0b hbX;have HCX:Hid (∀ (i:Nat) (hi:i<l.length),(wr.alloc (.cells #[.int .i64 sx,.int .i64 (sx+long)] 60)).cell? ⟨g2,i,none⟩=some (.int .i64 l[i])):=fun i hi=>a0a ((zr _ _).alloc (zq _) _) (HC.out i hi)
      have q1:¬ sx<fr:=by omega
      have q2:¬ til<sx+long:=by omega
      have hz:(wr.alloc (.cells #[.int .i64 sx,.int .i64 (sx+long)] 60)).heap.size=wr.heap.size+1:=by simp
      clear hB hbX hz
      cases hfit:Desk.a1e ts es name a0c [(sx,sx+long)]
      ·have HE:Hid ((l.take (j+1)).foldl (Desk.a3O ts es name a0c long fr til) (-1)=b):=by show _=b;rw[HST.out,HPS.out,if_neg hskip,hfit];rfl
       rw[hfit] at FT1;have hcs:b<0\/(0<=b/\sx<b):=by omega
       clear hskip hfit;rcases hcs with q3|⟨q3,q4⟩
       all_goals
        go_wp2_with fail
        refine FT1.out.mono ?_;rintro e w4 ⟨rfl,hb4⟩;have HB4:=a0b (zA (a0j HBX.out hb4 (zq _)) (fun i hi=>a0a hb4 (HCX.out i hi)));clear hb4 FT1
        go_wp2_with fail
        go_roundw
        case rel=>exact⟨j+1,by omega,by go_num,by rw[HE.out],HB4.out.1,HB4.out.2⟩
        case measure=>simp[intOf];omega
      ·have HE:Hid ((l.take (j+1)).foldl (Desk.a3O ts es name a0c long fr til) (-1)=sx):=by show _=sx;rw[HST.out,HPS.out,if_neg hskip,hfit];rfl
       rw[hfit] at FT1;have hcs:b<0\/(0<=b/\sx<b):=by omega
       clear hskip hfit;rcases hcs with q3|⟨q3,q4⟩
       all_goals
        go_wp2_with fail
        refine FT1.out.mono ?_;rintro e w4 ⟨rfl,hb4⟩;have HB4:=a0b (zA (a0j HBX.out hb4 (zq _)) (fun i hi=>a0a hb4 (HCX.out i hi)));clear hb4 FT1
        go_wp2_with fail
        go_roundw
        case rel=>exact⟨j+1,by omega,by go_num,by rw[HE.out],HB4.out.1,HB4.out.2⟩
        case measure=>simp[intOf];omega
    ·have e:l.take j=l:=List.take_of_length_le (by omega);have hi2:¬ (j:Int)<(l.length:Int):=by omega
     clear hb
     go_wp2_with fail
     go_ret;exact⟨a1L (by first|rfl|rw[e]),HBW.out⟩
namespace Desk
def a5V(a x:Int):List Int->Int
 |[]=>a
 |s :: r=>if s<=x/\a5V a x r<s then s else a5V a x r
theorem a6N(a x:Int)(h:a<=x):∀ l:List Int,a<=a5V a x l/\a5V a x l<=x/\(a5V a x l=a\/a5V a x l∈l)/\∀ s∈l,s<=x->s<=a5V a x l
 |[]=>⟨Int.le_refl _,h,.inl rfl,by simp⟩
 |s :: r=>by
  obtain⟨h1,h2,h3,h4⟩:=a6N a x h r;simp only[a5V]
  split
  ·rename_i c
   refine⟨by omega,c.1,.inr (by simp),fun t ht k=>?_⟩;rcases List.mem_cons.1 ht with rfl|ht
   ·omega
   ·have:=h4 t ht k;omega
  ·rename_i c
   refine⟨h1,h2,?_,fun t ht k=>?_⟩
   ·rcases h3 with h3|h3
    ·exact .inl h3
    ·exact .inr (by simp[h3])
   ·rcases List.mem_cons.1 ht with rfl|ht
    ·omega
    ·exact h4 t ht k
theorem a5Y(hyx:y<=x)(h:∀ s∈L,s.1<=x->s.1<=y):a0r L x<=a0r L y:=by
 unfold a0r;rw[<- List.countP_eq_length_filter,<- List.countP_eq_length_filter]
 have:List.countP (hasB x) L<=List.countP (hasB y) L:=List.countP_mono_left (fun s hs hb=>by
  simp[hasB] at hb ⊢;have:=h s hs hb.1
  omega)
 omega
def Pos(es:List Ent):Prop:=∀ e∈es,0<=e.a0c
theorem a5Z{name:ByteArray}{x y:Int}(hyx:y<=x):∀ {es:List Ent},Pos es->(∀ s∈a2L name es,s<=x->s<=y)->a0o name x es<=a0o name y es
 |[],_,_=>Int.le_refl _
 |e :: r,hp,h=>by
  have ih:=a5Z (name:=name) hyx (es:=r) (fun z hz=>hp z (by simp[hz])) (fun s hs=>h s (by simp[a2L,hs]));simp only[a0o]
  by_cases hb:ofB name e=true
  ·rw[if_pos hb,if_pos hb];have hs:a0y e.a0k name=true:=by simp[ofB] at hb;exact hb.1
   have hm:a0r e.a0e x<=a0r e.a0e y:=a5Y hyx (fun s hs' hx=>h s.1 (by simp[a2L,hs];exact .inl ⟨s.2,hs'⟩) hx);have hu:=hp e (by simp);have:a0r e.a0e x*e.a0c<=a0r e.a0e y*e.a0c:=Int.mul_le_mul_of_nonneg_right hm hu;omega
  ·rw[if_neg hb,if_neg hb];omega
theorem b7K(hp:Pos es)(h:a<=x):∃ y,a<=y/\y<=x/\(y=a\/y∈a2L name es)/\a0o name x es<=a0o name y es:=by
 obtain⟨h1,h2,h3,h4⟩:=a6N a x h (a2L name es);exact⟨_,h1,h2,h3,a5Z h2 hp h4⟩
theorem a4d{a0c:Int}(hp:Pos es)(hu:0<=a0c):
  a1e ts es name a0c L=true↔∀ x,0<a0r L x->a0o name x es+a0r L x*a0c<=a0h name ts:=by
 constructor
 ·intro h x hx
  have hex:∃ s∈L,s.1<=x/\x<s.2:=by
   unfold a0r at hx;have hl:0<(L.filter (hasB x)).length:=by omega
   obtain⟨s,hs⟩:=List.exists_mem_of_length_pos hl;have:=List.mem_filter.1 hs;simp[hasB] at this;exact⟨s,this.1,this.2⟩
  obtain⟨s0,hs0,k1,k2⟩:=hex;obtain⟨h1,h2,h3,h4⟩:=a6N s0.1 x k1 (a2L name es++L.map (·.1));generalize a5V s0.1 x (a2L name es++L.map (·.1))=y at h1 h2 h3 h4
  have hy:y∈a2L name es++L.map (·.1):=by
   rcases h3 with rfl|h3
   ·simp;exact .inr ⟨s0.2,hs0⟩
   ·exact h3
  have ht:=a5Z (name:=name) (es:=es) h2 hp (fun s hs=>h4 s (by simp[hs]));have hm:a0r L x<=a0r L y:=a5Y h2 (fun s hs=>h4 s.1 (by simp;exact .inr ⟨s.2,hs⟩));have hh:=List.all_eq_true.1 h y hy;simp[c4T] at hh;have hx':0<a0r L y:=by omega
  have hmu:a0r L x*a0c<=a0r L y*a0c:=Int.mul_le_mul_of_nonneg_right hm hu;omega
 ·intro h;unfold a1e c4e;rw[List.all_eq_true];intro x _;simp[c4T]
  by_cases hx:0<a0r L x
  ·exact .inr (h x hx)
  ·exact .inl (by omega)
theorem a7i(a b x:Int):a0r [(a,b)] x=if a<=x/\x<b then 1 else 0:=by
 unfold a0r
 by_cases h:a<=x/\x<b
 ·rw[if_pos h];simp[hasB,h.1,h.2]
 ·rw[if_neg h];have:hasB x (a,b)=false:=by simp[hasB];omega
  simp[this]
theorem a6S{a0c b:Int}(hp:Pos es)(hu:0<=a0c):
  a1e ts es name a0c [(a,b)]=true↔∀ x,a<=x->x<b->a0o name x es+a0c<=a0h name ts:=by
 rw[a4d hp hu];constructor
 ·intro h x h1 h2;have:=h x (by rw[a7i,if_pos ⟨h1,h2⟩];omega);rw[a7i,if_pos ⟨h1,h2⟩] at this;omega
 ·intro h x hx;rw[a7i] at hx ⊢
  by_cases c:a<=x/\x<b
  ·rw[if_pos c];have:=h x c.1 c.2;omega
  ·rw[if_neg c] at hx;omega
def a9W(f:Int->Int)(a b m:Int):Prop:=(∀ x,a<=x->x<b->f x<=m)/\∃ x,a<=x/\x<b/\f x=m
theorem a9W.eq{f:Int->Int}{b m n:Int}(h:a9W f a b m)(k:a9W f a b n):m=n:=by
 obtain⟨h1,x,h2,h3,h4⟩:=h;obtain⟨k1,y,k2,k3,k4⟩:=k;have:=h1 y k2 k3;have:=k1 x h2 h3;omega
theorem b2U{name:ByteArray}{es:List Ent}{a b:Int}:∀ (l:List Int)(m:Int),
  m<=l.foldl (a2r name es a b) m/\(∀ x∈l,a<x->x<b->a0o name x es<=l.foldl (a2r name es a b) m)/\(l.foldl (a2r name es a b) m=m\/∃ x∈l,a<x/\x<b/\l.foldl (a2r name es a b) m=a0o name x es)
 |[],m=>⟨Int.le_refl _,by simp,.inl rfl⟩
 |x :: l,m=>by
  obtain⟨h1,h2,h3⟩:=b2U (name:=name) (es:=es) (a:=a) (b:=b) l (a2r name es a b m x);simp only[List.foldl_cons];generalize l.foldl (a2r name es a b) (a2r name es a b m x)=R at h1 h2 h3 ⊢
  have hs:(a2r name es a b m x=m/\¬ (a<x/\x<b/\m<a0o name x es))\/(a2r name es a b m x=a0o name x es/\a<x/\x<b/\m<a0o name x es):=by
   unfold a2r
   by_cases c:a<x/\x<b/\m<a0o name x es
   ·rw[if_pos c];exact .inr ⟨rfl,c⟩
   ·rw[if_neg c];exact .inl ⟨rfl,c⟩
  rcases hs with ⟨e,c⟩|⟨e,c⟩
  ·rw[e] at h1 h3;refine⟨h1,fun y hy k1 k2=>?_,?_⟩
   ·rcases List.mem_cons.1 hy with rfl|hy
    ·omega
    ·exact h2 y hy k1 k2
   ·rcases h3 with h3|⟨y,hy,k⟩
    ·exact .inl h3
    ·exact .inr ⟨y,by simp[hy],k⟩
  ·rw[e] at h1 h3;refine⟨by omega,fun y hy k1 k2=>?_,?_⟩
   ·rcases List.mem_cons.1 hy with rfl|hy
    ·omega
    ·exact h2 y hy k1 k2
   ·rcases h3 with h3|⟨y,hy,k⟩
    ·exact .inr ⟨x,by simp,c.1,c.2.1,h3⟩
    ·exact .inr ⟨y,by simp[hy],k⟩
theorem a6H{b:Int}(hp:Pos es)(h:a<b):a9W (fun x=>a0o name x es) a b (a1Q name es a b):=by
 obtain⟨h1,h2,h3⟩:=b2U (name:=name) (es:=es) (a:=a) (b:=b) (a2L name es) (a0o name a es);unfold a1Q;generalize (a2L name es).foldl (a2r name es a b) (a0o name a es)=R at h1 h2 h3 ⊢;refine⟨fun x k1 k2=>?_,?_⟩
 ·obtain⟨y,i1,i2,i3,i4⟩:=b7K (name:=name) hp k1;show a0o name x es<=R
  by_cases e:y=a
  ·subst e;omega
  ·rcases i3 with i3|i3
   ·exact absurd i3 e
   ·have:=h2 y i3 (by omega) (by omega);omega
 ·rcases h3 with h3|⟨x,_,k1,k2,k3⟩
  ·exact⟨a,Int.le_refl _,h,h3.symm⟩
  ·exact⟨x,by omega,k2,k3.symm⟩
theorem c0S{name:ByteArray}{x:Int}:∀ {es:List Ent},Pos es->a0o name x es<a0o name (x-1) es->x∈b5k es
 |[],_,h=>by simp[a0o] at h
 |e :: r,hp,h=>by
  simp only[b5k,List.mem_append,List.mem_map]
  by_cases c:∃ s∈e.a0e,s.2=x
  ·exact .inl c
  ·right;refine c0S (name:=name) (fun z hz=>hp z (by simp[hz])) ?_
   have hm:a0r e.a0e (x-1)<=a0r e.a0e x:=by
    unfold a0r;rw[<- List.countP_eq_length_filter,<- List.countP_eq_length_filter]
    have:List.countP (hasB (x-1)) e.a0e<=List.countP (hasB x) e.a0e:=List.countP_mono_left (fun s hs hb=>by
     simp[hasB] at hb ⊢;have:s.2≠x:=fun e=>c ⟨s,hs,e⟩
     omega)
    omega
   have hu:=hp e (by simp);have hmu:a0r e.a0e (x-1)*e.a0c<=a0r e.a0e x*e.a0c:=Int.mul_le_mul_of_nonneg_right hm hu;simp only[a0o] at h
   split at h <;> omega
def c6U(r:Int):Option Int:=if r<0 then none else some r
theorem a9z{ts:List (ByteArray × Int)}{es:List Ent}{name:ByteArray}{a0c long fr tq:Int}(h0:0<=fr):∀ (l:List Int)(b:Int),-1<=b ->
  (b=-1\/(fr<=b/\b+long<=tq/\a1e ts es name a0c [(b,b+long)]=true)) ->
  let R:=l.foldl (a3O ts es name a0c long fr tq) b
  (R=-1\/(fr<=R/\R+long<=tq/\a1e ts es name a0c [(R,R+long)]=true))/\-1<=R/\(0<=b->0<=R/\R<=b)/\∀ s∈l,fr<=s->s+long<=tq->a1e ts es name a0c [(s,s+long)]=true->0<=R/\R<=s
 |[],b,hb,h=>by
  refine⟨h,hb,fun k=>⟨k,Int.le_refl _⟩,by simp⟩
 |s :: l,b,hb,h=>by
  intro R
  have hs:a3O ts es name a0c long fr tq b s=b/\((s<fr\/tq<s+long\/(0<=b/\b<=s))\/a1e ts es name a0c [(s,s+long)]=false)\/a3O ts es name a0c long fr tq b s=s/\fr<=s/\s+long<=tq/\a1e ts es name a0c [(s,s+long)]=true/\(b<0\/s<b):=by
   unfold a3O
   by_cases c:s<fr\/tq<s+long\/(0<=b/\b<=s)
   ·rw[if_pos c];exact .inl ⟨rfl,.inl c⟩
   ·rw[if_neg c]
    cases hf:a1e ts es name a0c [(s,s+long)]
    ·exact .inl ⟨by simp,.inr rfl⟩
    ·exact .inr ⟨by simp,by omega,by omega,rfl,by omega⟩
  rcases hs with ⟨e,c⟩|⟨e,c1,c2,c3,c4⟩
  ·have ih:=a9z (ts:=ts) (es:=es) (name:=name) (a0c:=a0c) (long:=long) (tq:=tq) h0 l b hb h;have eR:R=l.foldl (a3O ts es name a0c long fr tq) b:=by show List.foldl _ _ _=_;rw[List.foldl_cons,e]
   rw[<- eR] at ih;obtain⟨i1,i2,i3,i4⟩:=ih;refine⟨i1,i2,i3,fun t ht k1 k2 k3=>?_⟩;rcases List.mem_cons.1 ht with rfl|ht
   ·rcases c with c|c
    ·have:=i3 (by omega);omega
    ·rw[k3] at c;cases c
   ·exact i4 t ht k1 k2 k3
  ·have ih:=a9z (ts:=ts) (es:=es) (name:=name) (a0c:=a0c) (long:=long) (tq:=tq) h0 l s (by omega) (.inr ⟨c1,c2,c3⟩);have eR:R=l.foldl (a3O ts es name a0c long fr tq) s:=by show List.foldl _ _ _=_;rw[List.foldl_cons,e]
   rw[<- eR] at ih;obtain⟨i1,i2,i3,i4⟩:=ih;have i3':=i3 (by omega);refine⟨i1,i2,fun k=>by omega,fun t ht k1 k2 k3=>?_⟩;rcases List.mem_cons.1 ht with rfl|ht
   ·exact i3'
   ·exact i4 t ht k1 k2 k3
theorem c2T(P:Int->Prop)(fr:Int):∀ (n:Nat)(s:Int),s=fr+n->P s->∃ r,fr<=r/\r<=s/\P r/\∀ t,fr<=t->t<r->¬ P t:=by
 intro n
 induction n using Nat.strongRecOn with
 |_ n ih =>
  intro s hs hP
  by_cases c:∃ t,fr<=t/\t<s/\P t
  ·obtain⟨t,k1,k2,k3⟩:=c;obtain⟨r,i1,i2,i3,i4⟩:=ih (t-fr).toNat (by omega) t (by omega) k3;exact⟨r,i1,by omega,i3,i4⟩
  ·exact⟨s,by omega,Int.le_refl _,hP,fun t k1 k2 k3=>c ⟨t,k1,k2,k3⟩⟩
theorem c3k{a0c:Int}(hp:Pos es)(hu:0<=a0c)(h0:0<=fr)(_hl:1<=long):
  -1<=a9A ts es name a0c long fr tq/\a8j (fun x=>a0o name x es) fr tq long (a0h name ts-a0c) (c6U (a9A ts es name a0c long fr tq)):=by
 have hr:∀ s,a4X (fun x=>a0o name x es) long (a0h name ts-a0c) s↔a1e ts es name a0c [(s,s+long)]=true:=by
  intro s;rw[a6S hp hu];constructor
  ·intro h x k1 k2;have:=h x k1 k2;have this:a0o name x es<=a0h name ts-a0c:=this;omega
  ·intro h x k1 k2;have:=h x k1 k2;show a0o name x es<=a0h name ts-a0c;omega
 obtain⟨h1,h2,_,h4⟩:=a9z (ts:=ts) (es:=es) (name:=name) (a0c:=a0c) (long:=long) (tq:=tq) h0 (fr :: b5k es) (-1) (Int.le_refl _) (.inl rfl);unfold a9A;generalize (fr :: b5k es).foldl (a3O ts es name a0c long fr tq) (-1)=R at h1 h2 h4 ⊢
 have key:∀ s,fr<=s->s+long<=tq->a1e ts es name a0c [(s,s+long)]=true->0<=R/\R<=s:=by
  intro s k1 k2 k3;obtain⟨r,i1,i2,i3,i4⟩:=c2T (fun s=>a1e ts es name a0c [(s,s+long)]=true) fr (s-fr).toNat s (by omega) k3
  have:r∈fr :: b5k es:=by
   by_cases e:r=fr
   ·simp[e]
   ·have hno:=i4 (r-1) (by omega) (by omega);have hin:=(a6S hp hu).1 i3
    have:∃ x,r-1<=x/\x<r-1+long/\a0h name ts<a0o name x es+a0c:=by
     apply Classical.byContradiction;intro hc;apply hno;apply (a6S hp hu).2;intro x j1 j2
     by_cases d:a0o name x es+a0c<=a0h name ts
     ·exact d
     ·exact absurd ⟨x,j1,j2,by omega⟩ hc
    obtain⟨x,j1,j2,j3⟩:=this
    have ex:x=r-1:=by
     by_cases d:r<=x
     ·have:=hin x d (by omega);omega
     ·omega
    subst ex;have:=hin r (Int.le_refl _) (by omega);exact List.mem_cons_of_mem _ (c0S (name:=name) hp (by omega))
  have:=h4 r this i1 (by omega) i3;omega
 refine⟨h2,?_⟩;unfold c6U
 split
 ·intro s k1 k2 k3;have:=key s k1 k2 ((hr s).1 k3);omega
 ·rcases h1 with h1|⟨i1,i2,i3⟩
  ·omega
  ·refine⟨i1,i2,(hr R).2 i3,fun s k1 k2 k3=>?_⟩;have:=key s k1 (by omega) ((hr s).1 k3);omega
theorem c1G{f:Int->Int}{b:Int}{q:Option Int}(h:a8j f a b long level r)(k:a8j f a b long level q):r=q:=by
 cases r with
 |none =>
  cases q with
  |none=>rfl
  |some s=>exact absurd k.2.2.1 (h s k.1 k.2.1)
 |some s =>
  cases q with
  |none=>exact absurd h.2.2.1 (k s h.1 h.2.1)
  |some t =>
   obtain⟨h1,h2,h3,h4⟩:=h;obtain⟨k1,k2,k3,k4⟩:=k
   by_cases c:s<t
   ·exact absurd h3 (k4 s h1 c)
   ·by_cases d:t<s
    ·exact absurd k3 (h4 t k1 d)
    ·exact congrArg some (by omega)
theorem b4a{f g:Int->Int}{b:Int}(h:a8j f a b long level r)(hfg:∀ x,a<=x->x<b->f x=g x):a8j g a b long level r:=by
 have key:∀ s,a<=s->s+long<=b->(a4X f long level s↔a4X g long level s):=by
  intro s k1 k2;constructor
  ·intro h x i1 i2;rw[<- hfg x (by omega) (by omega)];exact h x i1 i2
  ·intro h x i1 i2;rw[hfg x (by omega) (by omega)];exact h x i1 i2
 cases r with
 |none=>exact fun s k1 k2 k3=>h s k1 k2 ((key s k1 k2).2 k3)
 |some s =>
  obtain⟨h1,h2,h3,h4⟩:=h;exact⟨h1,h2,(key s h1 h2).1 h3,fun t k1 k2 k3=>h4 t k1 k2 ((key t k1 (by omega)).2 k3)⟩
end Desk
namespace Desk
def a1C(name:ByteArray):List Ent->List Bool->Int
 |[],_=>0
 |e :: r,p=>(if ofB name e then e.a0c*cnt e.a0e p else 0)+a1C name r p
theorem a8S(name:ByteArray)(l r:List Ent)(p:List Bool):a1C name (l++r) p=a1C name l p+a1C name r p:=by
 induction l with
 |nil=>simp[a1C]
 |cons e l ih=>simp only[List.cons_append,a1C,ih];omega
theorem b9s(h:ofB name e=true):a1z (a1C name es) e.a0e e.a0c=a1C name (es++[e]):=by
 funext p
 simp only[a1z,a8S,a1C,h,if_true];omega
theorem a7X(h:ofB name e=false):a1C name (es++[e])=a1C name es:=by
 funext p
 simp[a8S,a1C,h]
theorem a7j(name:ByteArray)(p:List Bool):∀ es:List Ent,(∀ e∈es,Small e)->0<=a1C name es p/\a1C name es p<=900*es.length
 |[],_=>by simp[a1C]
 |e :: r,h=>by
  have i:=a7j name p r (fun x hx=>h x (by simp[hx]));have s:=h e (by simp);have b:=b3P e.a0e p;have sl:=s.sl;have c:0<=e.a0c*cnt e.a0e p:=Int.mul_nonneg s.u0 b.1;have d:e.a0c*cnt e.a0e p<=9*100:=Int.mul_le_mul s.u1 (by omega) b.1 (by omega);simp only[a1C,List.length_cons]
  split <;> omega
theorem Small.pos(h:∀ e∈es,Small e):Pos es:=fun e he=>(h e he).u0
def a9U(es:List Ent):Prop:=∀ e∈es,∀ s∈e.a0e,s.1<s.2
theorem a4a(name:ByteArray){x:Int}(h0:0<=x)(h1:x<1048320):∀ es:List Ent,a9U es->b0i (a1C name es) x=a0o name x es
 |[],_=>by
  have:a1C name []=fun _=>0:=by funext p;rfl
  rw[this];exact Lev.b0h 20 0 1048320 x
 |e :: r,h=>by
  have ih:=a4a name h0 h1 r (fun z hz=>h z (by simp[hz]))
  by_cases hb:ofB name e=true
  ·have:a1C name (e :: r)=a1z (a1C name r) e.a0e e.a0c:=by funext p;simp only[a1C,a1z,hb,if_true];omega
   rw[this,b0G _ _ _ _ h0 h1 (h e (by simp)),ih];simp only[a0o,hb,if_true];have:((e.a0e.filter fun s=>decide (s.1<=x) && decide (x<s.2)).length:Int)=a0r e.a0e x:=rfl;rw[this,Int.mul_comm];omega
  ·have hb':ofB name e=false:=by simpa using hb
   have:a1C name (e :: r)=a1C name r:=by funext p;simp[a1C,hb']
   rw[this,ih];simp[a0o,hb']
theorem b8v{a0c u:Int}(hs:∀ e∈es,Small e)(hsp:a9U es)(hL:c1P L)(hu:0<=u)(hun:a0h name ts=a0c):
  a2V (a1z (a1C name es) L u) a0c L=a1e ts es name u L:=by
 have hA:∀ p,0<=a1z (a1C name es) L u p:=fun p=>by
  have:=(a7j name p es hs).1;have:=(b3P L p).1;have:0<=u*cnt L p:=Int.mul_nonneg hu this;unfold a1z;omega
 have hlev:∀ x,0<=x->x<1048320->b0i (a1z (a1C name es) L u) x=a0o name x es+a0r L x*u:=by
  intro x h0 h1;rw[b0G _ _ _ _ h0 h1 (fun s hs=>(hL s hs).2.1),a4a name h0 h1 es hsp];have:((L.filter fun s=>decide (s.1<=x) && decide (x<s.2)).length:Int)=a0r L x:=rfl;rw[this,Int.mul_comm]
 rw[Bool.eq_iff_iff,a4d (Small.pos hs) hu,hun];unfold a2V;rw[List.all_eq_true];constructor
 ·intro h x hx;have hl:0<(L.filter (hasB x)).length:=by unfold a0r at hx;omega
  obtain⟨s,hm⟩:=List.exists_mem_of_length_pos hl;have hm:=List.mem_filter.1 hm;have hb:=hm.2;simp[hasB] at hb;have k:=hL s hm.1;have:=of_decide_eq_true (h s hm.1);have m:=(b1G hA k.1 k.2.1 k.2.2).1 x hb.1 hb.2;rw[hlev x (by omega) (by omega)] at m;omega
 ·intro h s hs';have k:=hL s hs';obtain⟨_,x,m1,m2,m3⟩:=b1G hA k.1 k.2.1 k.2.2;rw[hlev x (by omega) (by omega)] at m3
  have hpos:0<a0r L x:=by
   unfold a0r;have:s∈L.filter (hasB x):=List.mem_filter.2 ⟨hs',by simp[hasB,m1,m2]⟩;have:=List.length_pos_of_mem this;omega
  have:=h x hpos;exact decide_eq_true (by omega)
theorem c0m{b:Int}(hs:∀ e∈es,Small e)(hsp:a9U es)(h0:0<=a)(h1:a<b)(h2:b<=1048320):b4T (a1C name es) (a,b)=a1Q name es a b:=by
 have m:=b1G (A:=a1C name es) (s:=(a,b)) (fun p=>(a7j name p es hs).1) h0 h1 h2;refine a9W.eq (f:=fun x=>a0o name x es) (a:=a) (b:=b) ⟨fun x k1 k2=>?_,?_⟩ (a6H (Small.pos hs) h1)
 ·have:=m.1 x k1 k2;rw[a4a name (by omega) (by have:x<b:=k2;omega) es hsp] at this;exact this
 ·obtain⟨x,k1,k2,k3⟩:=m.2;rw[a4a name (by have:a<=x:=k1;omega) (by have:x<b:=k2;omega) es hsp] at k3;exact⟨x,k1,k2,k3⟩
def c3V:Option Int->Int
 |none=>-1
 |some s=>s
theorem b9G{a0c b:Int}(hs:∀ e∈es,Small e)(hsp:a9U es)(h0:0<=a)(h2:b<=1048320)(hu:0<=a0c)(hl:1<=long)(h:a8j (Lev.lev (b1M (a1C name es)) 0 1048320) a b long (a0h name ts-a0c) r):
  a9A ts es name a0c long a b=c3V r:=by
 obtain⟨k1,k2⟩:=c3k (ts:=ts) (es:=es) (name:=name) (a0c:=a0c) (long:=long) (fr:=a) (tq:=b) (Small.pos hs) hu h0 hl;have h':=b4a h (g:=fun x=>a0o name x es) (fun x i1 i2=>a4a name (by omega) (by omega) es hsp);have e:=c1G h' k2;rw[e];generalize a9A ts es name a0c long a b=R at *;unfold c6U
 by_cases c:R<0
 ·rw[if_pos c];show R=-1;omega
 ·rw[if_neg c];rfl
def kept(id:Int)(es:List Ent):List Ent:=es.filter fun e=>e.id != id
def a0Q(e:Ent):Ent:={ e with kind:=1,a0Z:=0 }
def a0C(id:Int)(es:List Ent):List Ent:=es.map fun e=>if e.id=id then a0Q e else e
def Ids(es:List Ent):Prop:=(es.map (·.id)).Pairwise (· < ·)
theorem Ids.cons{r:List Ent}(h:Ids (e :: r)):(∀ z∈r,e.id<z.id)/\Ids r:=by
 unfold Ids at h ⊢;rw[List.map_cons,List.pairwise_cons] at h;exact⟨fun z hz=>h.1 z.id (List.mem_map.2 ⟨z,hz,rfl⟩),h.2⟩
theorem Ids.one(h:Ids es):∀ {x y:Ent},x∈es->y∈es->x.id=y.id->x=y:=by
 induction es with
 |nil=>intro x y hx;simp at hx
 |cons e r ih =>
  intro x y hx hy e1;obtain⟨h1,h2⟩:=h.cons;rcases List.mem_cons.1 hx with hx|hx
  ·rcases List.mem_cons.1 hy with hy|hy
   ·rw[hx,hy]
   ·have:=h1 y hy;rw[hx] at e1;omega
  ·rcases List.mem_cons.1 hy with hy|hy
   ·have:=h1 x hx;rw[hy] at e1;omega
   ·exact ih h2 hx hy e1
theorem a9h(h:∀ e∈es,e.id≠id):kept id es=es:=List.filter_eq_self.2 (fun e he=>by simp[h e he])
theorem a4A{id:Int}:∀ {es:List Ent},(∀ e∈es,e.id≠id)->a0C id es=es
 |[],_=>rfl
 |e :: r,h=>by
  have i:=a4A (id:=id) (es:=r) (fun z hz=>h z (by simp[hz]));unfold a0C at i ⊢;rw[List.map_cons,i,if_neg (h e (by simp))]
theorem b8M(es:List Ent):(a0C id es).map (·.id)=es.map (·.id):=by
 unfold a0C;rw[List.map_map];apply List.map_congr_left;intro e _;show (if e.id=id then a0Q e else e).id=e.id
 split <;> rfl
theorem b1e(h:Ids es):Ids (a0C id es):=by
 unfold Ids at *;rw[b8M];exact h
theorem a8Q{name:ByteArray}{e:Ent}(hb:ofB name e=true):∀ {es:List Ent},Ids es->e∈es->a1z (a1C name es) e.a0e (-e.a0c)=a1C name (kept e.id es)
 |[],_,h=>by simp at h
 |z :: r,hi,h=>by
  obtain⟨h1,h2⟩:=hi.cons
  funext p
  by_cases c:z.id=e.id
  ·have ez:e=z:=hi.one h (by simp) c.symm;subst ez
   have:kept e.id (e :: r)=r:=by
    have k:=a9h (id:=e.id) (es:=r) (fun y hy=>by have:=h1 y hy;omega);unfold kept at k ⊢;rw[List.filter_cons,if_neg (by simp),k]
   rw[this];simp only[a1z,a1C,hb,if_true];rw[Int.neg_mul];omega
  ·have he:e∈r:=by
    rcases List.mem_cons.1 h with rfl|h
    ·exact absurd rfl c
    ·exact h
   have i:=congrFun (a8Q hb h2 he) p
   have:kept e.id (z :: r)=z :: kept e.id r:=by
    unfold kept;rw[List.filter_cons,if_pos (by simpa using c)]
   rw[this];simp only[a1z,a1C] at i ⊢;omega
theorem a4S{name:ByteArray}{id:Int}:∀ {es:List Ent},(∀ e∈es,e.id=id->ofB name e=false)->a1C name (kept id es)=a1C name es
 |[],_=>rfl
 |z :: r,h=>by
  have i:=a4S (name:=name) (id:=id) (es:=r) (fun y hy=>h y (by simp[hy]))
  funext p
  have i:=congrFun i p;unfold kept at i ⊢;rw[List.filter_cons]
  by_cases c:z.id=id
  ·rw[if_neg (by simp[c])];simp only[a1C,h z (by simp) c,Bool.false_eq_true,if_false];rw[i];omega
  ·rw[if_pos (by simpa using c)];simp only[a1C,i]
theorem a3I:ofB name (a0Q e)=a0y e.a0k name:=by
 simp[ofB,a0Q]
theorem a8R{name:ByteArray}{e:Ent}(hn:a0y e.a0k name=true)(hk:e.kind=3):∀ {es:List Ent},Ids es->e∈es->a1z (a1C name es) e.a0e e.a0c=a1C name (a0C e.id es)
 |[],_,h=>by simp at h
 |z :: r,hi,h=>by
  obtain⟨h1,h2⟩:=hi.cons
  funext p
  by_cases c:z.id=e.id
  ·have ez:e=z:=hi.one h (by simp) c.symm;subst ez
   have:a0C e.id (e :: r)=a0Q e :: r:=by
    have k:=a4A (id:=e.id) (es:=r) (fun y hy=>by have:=h1 y hy;omega);unfold a0C at k ⊢;rw[List.map_cons,if_pos rfl,k]
   rw[this];have o1:ofB name e=false:=by simp[ofB,hk]
   simp only[a1z,a1C,o1,a3I,hn,if_true,Bool.false_eq_true,if_false];show 0+a1C name r p+e.a0c*cnt e.a0e p=e.a0c*cnt e.a0e p+a1C name r p;omega
  ·have he:e∈r:=by
    rcases List.mem_cons.1 h with rfl|h
    ·exact absurd rfl c
    ·exact h
   have i:=congrFun (a8R hn hk h2 he) p
   have:a0C e.id (z :: r)=z :: a0C e.id r:=by
    unfold a0C;rw[List.map_cons,if_neg c]
   rw[this];simp only[a1z,a1C] at i ⊢;omega
theorem a3Q{name:ByteArray}{id:Int}:∀ {es:List Ent},(∀ e∈es,e.id=id->a0y e.a0k name=true->e.kind≠3)->a1C name (a0C id es)=a1C name es
 |[],_=>rfl
 |z :: r,h=>by
  have i:=a3Q (name:=name) (id:=id) (es:=r) (fun y hy=>h y (by simp[hy]))
  funext p
  have i:=congrFun i p;unfold a0C at i ⊢;rw[List.map_cons];simp only[a1C,i]
  by_cases c:z.id=id
  ·rw[if_pos c,a3I]
   have e:ofB name z=a0y z.a0k name:=by
    unfold ofB
    cases hs:a0y z.a0k name
    ·rfl
    ·have:=h z (by simp) c hs;simp[this]
   rw[e];rfl
  ·rw[if_neg c]
theorem a4r:e∈kept id es↔e∈es/\e.id≠id:=by simp[kept]
theorem a2b:e∈a0C id es↔(e∈es/\e.id≠id)\/∃ z∈es,z.id=id/\e=a0Q z:=by
 unfold a0C;rw[List.mem_map];constructor
 ·rintro ⟨z,hz,h⟩
  by_cases c:z.id=id
  ·rw[if_pos c] at h;exact .inr ⟨z,hz,c,h.symm⟩
  ·rw[if_neg c] at h;subst h;exact .inl ⟨hz,c⟩
 ·rintro (⟨h1,h2⟩|⟨z,hz,h1,h2⟩)
  ·exact⟨e,h1,if_neg h2⟩
  ·exact⟨z,hz,by rw[if_pos h1,h2]⟩
end Desk
namespace Desk
def a8l(a b:Int)(s:Int × Int):Bool:=decide (s.1<b) && decide (a<s.2)
def a2E(a b:Int):List (Int × Int)->Int
 |[]=>-1
 |s :: r=>if a8l a b s then s.1 else a2E a b r
end Desk
theorem d8X(x:Desk.Ent × Nat × Nat)(fr til:Int)(w:World)(h:RSL w x.2.1 x.1.a0e)(hl:x.1.a0e.length<=100000):
  Calls Tryz.prog 266 #[.agg (c7a x).toArray,.int .i64 fr,.int .i64 til] w fun e w'=>e=.returned (.int .i64 (Desk.a2E fr til x.1.a0e))/\Below w.heap.size w w':=by
 have HS:=a0b h;clear h;simp only[c7a]
 go_enter Tryz.func266,Tryz.ntmps266
 go_wp2_with fail
 have hX:Below w.heap.size w (w.alloc (.cells #[.int .i64 x.1.id,.int .i64 x.1.kind,.string x.1.a0k,.int .i64 x.1.a0c,.slice (some ⟨x.2.1,0,none⟩) x.1.a0e.length x.2.2,.int .i64 x.1.a0Z] 58)):=(zr _ _).alloc (zq _) _;have x4:(w.alloc (.cells #[.int .i64 x.1.id,.int .i64 x.1.kind,.string x.1.a0k,.int .i64 x.1.a0c,.slice (some ⟨x.2.1,0,none⟩) x.1.a0e.length x.2.2,.int .i64 x.1.a0Z] 58)).cell? ⟨w.heap.size,4,none⟩=some (.slice (some ⟨x.2.1,0,none⟩) x.1.a0e.length x.2.2):=by simp
 have SX:=a0b (zA (HS.out.later hX) hX);clear hX;generalize (World.alloc w _)=X at x4 SX ⊢;generalize w.heap.size=N at x4 ⊢
 go_loop [7] (fun i=>∃ k:Nat,k<=x.1.a0e.length/\i=.int .i64 k/\Desk.a2E fr til x.1.a0e=Desk.a2E fr til (x.1.a0e.drop k)) (fun i=>x.1.a0e.length-(intOf i).toNat)
 case atStart=>exact⟨0,Nat.zero_le _,rfl,rfl⟩
 case round =>
  obtain⟨k,hk,rfl,hu⟩:=hrel;have HU:=a0b hu;clear hu
  by_cases hlt:k<x.1.a0e.length
  ·obtain⟨c1,c2⟩:=SX.out.1 k hlt;have hi:(k:Int)<(x.1.a0e.length:Int):=by omega
   have ed:Desk.a2E fr til (x.1.a0e.drop k)=if Desk.a8l fr til x.1.a0e[k] then x.1.a0e[k].1 else Desk.a2E fr til (x.1.a0e.drop (k+1)):=by rw[List.drop_eq_getElem_cons hlt];rfl
   have ED:=a0b ed;clear ed
   by_cases q1:x.1.a0e[k].1<til
   ·by_cases q2:fr<x.1.a0e[k].2
    ·have HN:Hid (Desk.a2E fr til x.1.a0e=x.1.a0e[k].1):=by
      show _=_;have hm:Desk.a8l fr til x.1.a0e[k]=true:=by simp[Desk.a8l,q1,q2]
      rw[HU.out,ED.out,hm];rfl
     go_wp2_with fail
     go_ret;exact⟨a1L HN.out.symm,SX.out.2⟩
    ·have HN:Hid (Desk.a2E fr til x.1.a0e=Desk.a2E fr til (x.1.a0e.drop (k+1))):=by
      show _=_;have hm:Desk.a8l fr til x.1.a0e[k]=false:=by simp[Desk.a8l,q2]
      rw[HU.out,ED.out,hm];rfl
     go_wp2_with fail
     go_round
     case rel=>exact⟨k+1,by omega,by go_num,HN.out⟩
     case measure=>simp[intOf];omega
   ·have HN:Hid (Desk.a2E fr til x.1.a0e=Desk.a2E fr til (x.1.a0e.drop (k+1))):=by
     show _=_;have hm:Desk.a8l fr til x.1.a0e[k]=false:=by simp[Desk.a8l,q1]
     rw[HU.out,ED.out,hm];rfl
    go_wp2_with fail
    go_round
    case rel=>exact⟨k+1,by omega,by go_num,HN.out⟩
    case measure=>simp[intOf];omega
  ·have e:x.1.a0e.drop k=[]:=List.drop_eq_nil_of_le (by omega);have HN:Hid (Desk.a2E fr til x.1.a0e=-1):=by show _=_;rw[HU.out,e];rfl
   have hi:¬ (k:Int)<(x.1.a0e.length:Int):=by omega
   clear e
   go_wp2_with fail
   go_ret;exact⟨a1L HN.out.symm,SX.out.2⟩
theorem b6Q:(Tryz.prog.info? 60).map (fun i=>(i.zero,i.size,i.bytes))=some (some (.agg #[.int .i64 0,.int .i64 0]),2,16):=by kernel_rfl
def d0k(s:Int × Int):List Value:=[.int .i64 s.1,.int .i64 s.2]
theorem d3W(L:List (Int × Int)):(L.flatMap d0k).length=L.length*2:=by
 induction L with
 |nil=>rfl
 |cons x xs ih=>simp only[List.flatMap_cons,List.length_append,List.length_cons,ih,d0k,List.length_nil];omega
theorem f5M(L:List (Int × Int)):∀ (j:Nat)(u:Value),(L.flatMap d0k)[j]?=some u->∃ i,∃ h:i<L.length,(j=i*2/\u=.int .i64 L[i].1)\/(j=i*2+1/\u=.int .i64 L[i].2):=by
 intro j u hu
 have hj:j<L.length*2:=by
  have:=(List.getElem?_eq_some_iff.1 hu).1
  rwa [d3W] at this
 have hi:j / 2<L.length:=by omega
 refine⟨j / 2,hi,?_⟩;have hsplit:L=L.take (j / 2)++L[j / 2] :: L.drop (j / 2+1):=by rw[List.getElem_cons_drop,List.take_append_drop]
 have hlen:((L.take (j / 2)).flatMap d0k).length=j / 2*2:=by rw[d3W,List.length_take_of_le (by omega)]
 rw[hsplit,List.flatMap_append,List.flatMap_cons,List.getElem?_append_right (by omega),hlen,List.getElem?_append_left (by simp[d0k];omega)] at hu;rcases (show j % 2=0\/j % 2=1 by omega) with e|e
 ·have e2:j-j / 2*2=0:=by omega
  rw[e2] at hu;simp[d0k] at hu;exact .inl ⟨by omega,hu.symm⟩
 ·have e2:j-j / 2*2=1:=by omega
  rw[e2] at hu;simp[d0k] at hu;exact .inr ⟨by omega,hu.symm⟩
theorem e9c{base g cap:Nat}(h:w.ownsRow base 60 2 (.slice (some ⟨g,0,none⟩) n cap) n (L.flatMap d0k)):n=L.length/\RSL w g L:=by
 have hl:=h.1;rw[d3W] at hl;have hn:n=L.length:=by omega
 refine⟨hn,fun i hi=>?_⟩;rcases h.2 with ⟨h0,_⟩|⟨g',cap',cur,hv,hg,hh,h1,h2,h3,h4⟩
 ·cases h0
 ·cases hv
  have key:∀ (j:Nat) (u:Value),j<2->(d0k L[i])[j]?=some u->w.cell? ⟨g,i*2+j,none⟩=some u:=by
   intro j u hj hu
   have e1:(L.flatMap d0k)[i*2+j]?=some u:=by
    have hsplit:L=L.take i++L[i] :: L.drop (i+1):=by rw[List.getElem_cons_drop,List.take_append_drop]
    rw[hsplit,List.flatMap_append,List.flatMap_cons];have hlen:((L.take i).flatMap d0k).length=i*2:=by rw[d3W,List.length_take_of_le (by omega)]
    rw[List.getElem?_append_right (by omega),hlen,Nat.add_sub_cancel_left,List.getElem?_append_left (by simp[d0k];omega)];exact hu
   have e2:(cur.toList.take (n*2))[i*2+j]?=some u:=by rw[h4];exact e1
   rw[List.getElem?_take_of_lt (by omega)] at e2;simp only[Array.getElem?_toList] at e2;simp[World.cell?,hh,e2]
  exact⟨key 0 _ (by omega) rfl,key 1 _ (by omega) rfl⟩
theorem e0T{t:TypeId}(h:w.heap[b]?=some (.cells #[c0,c1,c2,c3,c4,c5] t)):w.cell? ⟨b,0,none⟩=some c0:=by simp[World.cell?,h]
theorem e5p{t:TypeId}(h:w.heap[b]?=some (.cells #[c0,c1,c2,c3,c4,c5] t)):w.cell? ⟨b,1,none⟩=some c1:=by simp[World.cell?,h]
theorem e0S{t:TypeId}(h:w.heap[b]?=some (.cells #[c0,c1,c2,c3,c4,c5] t)):w.cell? ⟨b,2,none⟩=some c2:=by simp[World.cell?,h]
theorem e0R{t:TypeId}(h:w.heap[b]?=some (.cells #[c0,c1,c2,c3,c4,c5] t)):w.cell? ⟨b,3,none⟩=some c3:=by simp[World.cell?,h]
theorem e0P{t:TypeId}(h:w.heap[b]?=some (.cells #[c0,c1,c2,c3,c4,c5] t)):w.cell? ⟨b,4,none⟩=some c4:=by simp[World.cell?,h]
theorem e5o{t:TypeId}(h:w.heap[b]?=some (.cells #[c0,c1,c2,c3,c4,c5] t)):w.cell? ⟨b,5,none⟩=some c5:=by simp[World.cell?,h]
theorem f0l{cs:Array Value}{t:TypeId}(h:w.heap[b]?=some (.cells cs t)):∀ o,w.frozen? ⟨b,o,none⟩=false:=fun o=>by simp[World.frozen?,h]
theorem f2v{X w1:World}{N:Nat}{o1 o2:Obj}(hgrow:X.grownBy w1 (Value.slice none 0 0).ownBlock)(hz:N+1<X.heap.size)(h1:X.heap[N]?=some o1)(h2:X.heap[N+1]?=some o2):w1.heap[N]?=some o1/\w1.heap[N+1]?=some o2 :=
 ⟨(hgrow.block N (by omega) (by simp[Value.ownBlock])).trans h1,(hgrow.block (N+1) hz (by simp[Value.ownBlock])).trans h2⟩
theorem f2w(x:Desk.Ent × Nat × Nat)(w:World)(h:RSL w x.2.1 x.1.a0e)(hl0:0<x.1.a0e.length)(hl:x.1.a0e.length<=1000):
  Calls Tryz.prog 238 #[.agg (c7a x).toArray] w fun e w'=>∃ g cap,e=.returned (.agg (c7a (x.1,g,cap)).toArray)/\RSL w' g x.1.a0e/\w.heap.size<=g/\g<w'.heap.size/\Below w.heap.size w w':=by
 obtain⟨i0,hi0,hz0,hz1,hz2⟩:=info_parts b6Q;have HS:=a0b h;clear h;simp only[c7a]
 go_enter Tryz.func238,Tryz.ntmps238
 go_upto_region 2 with fail
 have hX:Below w.heap.size w ((w.alloc (.cells #[.int .i64 x.1.id,.int .i64 x.1.kind,.string x.1.a0k,.int .i64 x.1.a0c,.slice (some ⟨x.2.1,0,none⟩) x.1.a0e.length x.2.2,.int .i64 x.1.a0Z] 58)).alloc (.cells #[.int .i64 0,.int .i64 0,.string ⟨#[]⟩,.int .i64 0,.slice none 0 0,.int .i64 0] 58)):=((zr _ _).alloc (zq _) _).alloc (by simp) _;have hz:((w.alloc (.cells #[.int .i64 x.1.id,.int .i64 x.1.kind,.string x.1.a0k,.int .i64 x.1.a0c,.slice (some ⟨x.2.1,0,none⟩) x.1.a0e.length x.2.2,.int .i64 x.1.a0Z] 58)).alloc (.cells #[.int .i64 0,.int .i64 0,.string ⟨#[]⟩,.int .i64 0,.slice none 0 0,.int .i64 0] 58)).heap.size=w.heap.size+2:=by simp
 have hnews:∀ j u,(x.1.a0e.flatMap d0k)[j]?=some u->((w.alloc (.cells #[.int .i64 x.1.id,.int .i64 x.1.kind,.string x.1.a0k,.int .i64 x.1.a0c,.slice (some ⟨x.2.1,0,none⟩) x.1.a0e.length x.2.2,.int .i64 x.1.a0Z] 58)).alloc (.cells #[.int .i64 0,.int .i64 0,.string ⟨#[]⟩,.int .i64 0,.slice none 0 0,.int .i64 0] 58)).cell? ((⟨x.2.1,0,none⟩:Addr).add j)=some u:=by
  intro j u hu
  have ea:∀ j:Nat,((⟨x.2.1,0,none⟩:Addr).add j)=⟨x.2.1,j,none⟩:=by
   intro j;unfold Addr.add;split
   ·rename_i h;subst h;rfl
   ·simp
  rw[ea];obtain⟨i,hi,(⟨rfl,rfl⟩|⟨rfl,rfl⟩)⟩:=f5M _ j u hu
  ·exact a0a hX (HS.out i hi).1
  ·exact a0a hX (HS.out i hi).2
 have a1:((w.alloc (.cells #[.int .i64 x.1.id,.int .i64 x.1.kind,.string x.1.a0k,.int .i64 x.1.a0c,.slice (some ⟨x.2.1,0,none⟩) x.1.a0e.length x.2.2,.int .i64 x.1.a0Z] 58)).alloc (.cells #[.int .i64 0,.int .i64 0,.string ⟨#[]⟩,.int .i64 0,.slice none 0 0,.int .i64 0] 58)).heap[w.heap.size]?=some (.cells #[.int .i64 x.1.id,.int .i64 x.1.kind,.string x.1.a0k,.int .i64 x.1.a0c,.slice (some ⟨x.2.1,0,none⟩) x.1.a0e.length x.2.2,.int .i64 x.1.a0Z] 58) :=
  (Below.heap_alloc _ _ _ (by simp)).trans (a0p _ _)
 have a2:((w.alloc (.cells #[.int .i64 x.1.id,.int .i64 x.1.kind,.string x.1.a0k,.int .i64 x.1.a0c,.slice (some ⟨x.2.1,0,none⟩) x.1.a0e.length x.2.2,.int .i64 x.1.a0Z] 58)).alloc (.cells #[.int .i64 0,.int .i64 0,.string ⟨#[]⟩,.int .i64 0,.slice none 0 0,.int .i64 0] 58)).heap[w.heap.size+1]?=some (.cells #[.int .i64 0,.int .i64 0,.string ⟨#[]⟩,.int .i64 0,.slice none 0 0,.int .i64 0] 58):=by
  have:=a0p (w.alloc (.cells #[.int .i64 x.1.id,.int .i64 x.1.kind,.string x.1.a0k,.int .i64 x.1.a0c,.slice (some ⟨x.2.1,0,none⟩) x.1.a0e.length x.2.2,.int .i64 x.1.a0Z] 58)) (.cells #[.int .i64 0,.int .i64 0,.string ⟨#[]⟩,.int .i64 0,.slice none 0 0,.int .i64 0] 58)
  rwa [World.size_alloc] at this
 have NW:=a0b hnews;have HX:=a0b (zA hX (zA hz (zA a1 a2)));have x4:((w.alloc (.cells #[.int .i64 x.1.id,.int .i64 x.1.kind,.string x.1.a0k,.int .i64 x.1.a0c,.slice (some ⟨x.2.1,0,none⟩) x.1.a0e.length x.2.2,.int .i64 x.1.a0Z] 58)).alloc (.cells #[.int .i64 0,.int .i64 0,.string ⟨#[]⟩,.int .i64 0,.slice none 0 0,.int .i64 0] 58)).cell? ⟨w.heap.size,4,none⟩=some (.slice (some ⟨x.2.1,0,none⟩) x.1.a0e.length x.2.2):=by simp[World.cell?,a1]
 clear hX hz hnews a1 a2;generalize ((w.alloc (.cells #[.int .i64 x.1.id,.int .i64 x.1.kind,.string x.1.a0k,.int .i64 x.1.a0c,.slice (some ⟨x.2.1,0,none⟩) x.1.a0e.length x.2.2,.int .i64 x.1.a0Z] 58)).alloc (.cells #[.int .i64 0,.int .i64 0,.string ⟨#[]⟩,.int .i64 0,.slice none 0 0,.int .i64 0] 58))=X at NW HX x4 ⊢
 go_wp2_with (first
  |(at_builtin;refine wpList_append_lies _ rfl _ _ 56 rfl w.heap.size 60 i0 _ 2 16 Tryz.underlying56 hi0 hz0 hz1 hz2 rfl (by decide) (.slice none 0 0) 0 [] rfl (World.ownsRow_nil _ _ _ _) ⟨x.2.1,0,none⟩ x.1.a0e.length x.2.2 (x.1.a0e.flatMap d0k) rfl (d3W _) NW.out (by intro u hu;obtain⟨s,_,hs⟩:=List.mem_flatMap.1 hu;simp[d0k] at hs;rcases hs with rfl|rfl <;> rfl) hl0 (by unfold maxLen;omega) (by omega) (by have:=HX.out.2.1;omega) X.heap.size rfl ?_;intro g cap w1 ho1 hgrow hat hlt;obtain⟨e1,e2⟩:=f2v hgrow (by have:=HX.out.2.1;omega) HX.out.2.2.1 HX.out.2.2.2;have b0:=e0T e1;have b1:=e5p e1;have b2:=e0S e1;have b3:=e0R e1;have b5:=e5o e1;have b4:=e0P e1;have g4:=f0l e1;have r0:=e0T e2;have r1:=e5p e2;have r2:=e0S e2;have r3:=e0R e2;have r4:=e0P e2;have r5:=e5o e2;have rf:=f0l e2))
 have hg:g=X.heap.size:=by
  rcases hat with e|e
  ·simp[Value.ownBlock] at e
  ·exact e
 have hz:=HX.out.2.1;have ho1':w1.ownsRow w.heap.size 60 2 (.slice (some ⟨g,0,none⟩) x.1.a0e.length cap) x.1.a0e.length (x.1.a0e.flatMap d0k):=by simpa using ho1
 have hbw:Below w.heap.size w w1:=HX.out.1.grown hgrow HX.out.1.size (fun k hk=>by simp[Value.ownBlock] at hk)
 have hof:Off [w.heap.size,w.heap.size+1] w1 (((((((w1.setCell ⟨w.heap.size,4,none⟩ (.slice (some ⟨g,0,none⟩) x.1.a0e.length cap)).setCell ⟨w.heap.size+1,0,none⟩ (.int .i64 x.1.id)).setCell ⟨w.heap.size+1,1,none⟩ (.int .i64 x.1.kind)).setCell ⟨w.heap.size+1,2,none⟩ (.string x.1.a0k)).setCell ⟨w.heap.size+1,3,none⟩ (.int .i64 x.1.a0c)).setCell ⟨w.heap.size+1,4,none⟩ (.slice (some ⟨g,0,none⟩) x.1.a0e.length cap)).setCell ⟨w.heap.size+1,5,none⟩ (.int .i64 x.1.a0Z)) :=
  (((((((Off.refl _ w1).setCell (.inl (by simp)) _ _).setCell (.inl (by simp)) _ _).setCell (.inl (by simp)) _ _).setCell (.inl (by simp)) _ _).setCell (.inl (by simp)) _ _).setCell (.inl (by simp)) _ _).setCell (.inl (by simp)) _ _
 have hbf:Below w.heap.size w (((((((w1.setCell ⟨w.heap.size,4,none⟩ (.slice (some ⟨g,0,none⟩) x.1.a0e.length cap)).setCell ⟨w.heap.size+1,0,none⟩ (.int .i64 x.1.id)).setCell ⟨w.heap.size+1,1,none⟩ (.int .i64 x.1.kind)).setCell ⟨w.heap.size+1,2,none⟩ (.string x.1.a0k)).setCell ⟨w.heap.size+1,3,none⟩ (.int .i64 x.1.a0c)).setCell ⟨w.heap.size+1,4,none⟩ (.slice (some ⟨g,0,none⟩) x.1.a0e.length cap)).setCell ⟨w.heap.size+1,5,none⟩ (.int .i64 x.1.a0Z)) :=
  ⟨hof.os.trans hbw.os,hof.tape.trans hbw.tape,hof.output.trans hbw.output,Nat.le_trans hbw.size hof.size,fun k hk=>(hof.block k (zL hk hbw.size) (by simp;omega)).trans (hbw.block k hk)⟩
 refine bodyPost_ret (v:=.agg #[.int .i64 x.1.id,.int .i64 x.1.kind,.string x.1.a0k,.int .i64 x.1.a0c,.slice (some ⟨g,0,none⟩) x.1.a0e.length cap,.int .i64 x.1.a0Z]) (by simp[results,Tryz.results238,go_sem,r0,r1,r2,r3,r4,r5]) rfl ⟨g,cap,rfl,(e9c ho1').2.off hof (by simp;omega),by omega,Nat.lt_of_lt_of_le hlt hof.size,hbf⟩
namespace Desk
def b7U(name:ByteArray)(a b:Int)(e:Ent):Bool:=ofB name e && decide (0<=a2E a b e.a0e)
end Desk
structure d9z(w wx:World)(v:Value)(ys:List (Desk.Ent × Nat × Nat)):Prop where
 own:wx.ownsRow w.heap.size 58 6 v ys.length (ys.flatMap c7a)
 sl:∀ y∈ys,RSL wx y.2.1 y.1.a0e/\w.heap.size<=y.2.1/\y.2.1<wx.heap.size/\v.ownBlock≠some y.2.1
 bw:Below w.heap.size w wx
theorem d9z.later{wx wy:World}{ys:List (Desk.Ent × Nat × Nat)}(h:d9z w wx v ys)(k:Below wx.heap.size wx wy):d9z w wy v ys :=
 ⟨a1g h.own k,fun y hy=>⟨(h.sl y hy).1.later k,(h.sl y hy).2.1,Nat.lt_of_lt_of_le (h.sl y hy).2.2.1 k.size,(h.sl y hy).2.2.2⟩,a0j h.bw k (zq _)⟩
namespace Rank
def before(fs:List Int)(k i:Nat):Bool:=decide (fs.getD k 0<fs.getD i 0) || (decide (fs.getD k 0=fs.getD i 0) && decide (k<i))
def upto(fs:List Int)(i n:Nat):Nat:=((List.range n).filter (fun k=>before fs k i)).length
def e3Z(fs:List Int)(i:Nat):Nat:=upto fs i fs.length
theorem d3x(fs:List Int)(i n:Nat):upto fs i (n+1)=upto fs i n+if before fs n i then 1 else 0:=by
 unfold upto;rw[List.range_succ,List.filter_append,List.length_append]
 cases h:before fs n i <;> simp[h]
theorem d6b(fs:List Int)(i:Nat):before fs i i=false:=by simp[before]
theorem e5t{a c:Nat}(h:before fs a b=true)(k:before fs b c=true):before fs a c=true:=by
 simp[before] at *;omega
theorem d7p(fs:List Int){a:Nat}(h:a≠b):before fs a b=true\/before fs b a=true:=by
 simp[before];omega
theorem e5Z(fs:List Int)(i:Nat):∀ n,upto fs i n<=n
 |0=>by simp[upto]
 |n+1=>by have:=e5Z fs i n;rw[d3x];split <;> omega
theorem f2U(fs:List Int){i:Nat}:∀ {n},i<n->upto fs i n<n
 |0,h=>by omega
 |n+1,h=>by
  rw[d3x]
  by_cases e:i=n
  ·subst e;rw[d6b];have:=e5Z fs i i;simp;omega
  ·have:=f2U fs (i:=i) (n:=n) (by omega)
   split <;> omega
theorem e6F(fs:List Int)(h:i<fs.length):e3Z fs i<fs.length:=f2U fs h
theorem e3f{fs:List Int}{i j:Nat}(h:before fs i j=true):∀ n,upto fs i n+(if i<n then 1 else 0)<=upto fs j n
 |0=>by simp[upto]
 |n+1=>by
  have ih:=e3f h n;rw[d3x,d3x]
  by_cases e:n=i
  ·subst e;rw[d6b,h];simp at ih ⊢;omega
  ·have e1:(if i<n+1 then 1 else 0:Nat)=(if i<n then 1 else 0):=by
    by_cases h1:i<n
    ·rw[if_pos h1,if_pos (by omega)]
    ·rw[if_neg h1,if_neg (by omega)]
   rw[e1];generalize (if i<n then 1 else 0:Nat)=q at ih ⊢
   cases hb:before fs n i
   ·simp only[Bool.false_eq_true,if_false]
    split <;> omega
   ·rw[e5t hb h];simp only[if_true];omega
theorem d8o(hi:i<fs.length)(h:before fs i j=true):e3Z fs i<e3Z fs j:=by
 have:=e3f h fs.length;rw[if_pos hi] at this;exact this
theorem e1x(hi:i<fs.length)(hj:j<fs.length)(h:e3Z fs i=e3Z fs j):i=j:=by
 by_cases e:i=j
 ·exact e
 ·rcases d7p fs e with h1|h1
  ·have:=d8o hi h1;omega
  ·have:=d8o hj h1;omega
end Rank
end Go.Proofs.YtfigmlfdnickmaaGreatDoor
