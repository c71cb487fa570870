import Derived.Test.YtfigmlfdnickmaaGreatDoorL01
import Derived.Lib.SmallJoins
import Derived.OwnWalk
import Derived.Deep.AppendLies
import Derived.Deep.CutRange
import Derived.Deep.RegionLaw
set_option maxRecDepth 100000
set_option maxHeartbeats 8000000
variable{name:ByteArray}{given id:Int}{ts:List (ByteArray × Int)}{L:List (Int × Int)}{A A':List Bool->Int}{F F' Fl Fr Fs G:List Nat}{B E H b cap d e eb f i j n o p q tb:Nat}{a pl pr u ul us:Option Go.Addr}{v:Go.Value}{w w' w2 w4 wx wy:Go.World}
namespace Go.Proofs.YtfigmlfdnickmaaGreatDoor
open Go.RowKit
def a7S(w:World)(F:List Nat)(t':Avl.S)(e:Ending)(w':World):Prop :=
 ∃ (u:Option Addr) (F':List Nat),e=.returned (.pointer u)/\a2p w' t' (.pointer u) F'/\(∀ k∈F',k∈F\/w.heap.size<=k)/\Off F w w'
theorem a0J.putl{x:Avl.It}{l r l':Avl.S}(h:a0J w b x l r pl pr Fl Fr)(hb:b ∉ G)(hr:∀ y∈Fr,y ∉ G)(k1:a2p w2 l' (.pointer u) F')(k2:∀ k∈F',k∈G\/w.heap.size<=k)(k3:Off G w w2):
  a0J (w2.setCell ⟨b,6,none⟩ (.pointer u)) b x l' r u pr F' Fr/\(∀ k∈b :: (F'++Fr),k∈b :: (G++Fr)\/w.heap.size<=k)/\Off (b :: (G++Fr)) w (w2.setCell ⟨b,6,none⟩ (.pointer u)):=by
 obtain⟨n1,n2,n3,n4,n5,n6,n7,n8⟩:=h.parts;have hlt:=h.lt;refine⟨a0J.setl (h.n.off k3 hb) (k3.cell hb h.c7) k1 (h.r.off k3 hr) ?_,fun k hk=>?_,?_⟩
 ·refine List.nodup_cons.2 ⟨fun e=>?_,List.nodup_append.2 ⟨k1.nodup,n8,fun y hy z hz e=>?_⟩⟩
  ·rcases List.mem_append.1 e with e|e
   ·rcases k2 b e with e|e
    ·exact hb e
    ·have:=hlt b (by simp);omega
   ·exact n2 e
  ·subst e;rcases k2 y hy with e|e
   ·exact hr y hz e
   ·have:=hlt y (by simp[hz]);omega
 ·rcases List.mem_cons.1 hk with rfl|hk
  ·exact .inl (by simp)
  ·rcases List.mem_append.1 hk with hk|hk
   ·rcases k2 k hk with e|e
    ·exact .inl (by simp[e])
    ·exact .inr e
   ·exact .inl (by simp[hk])
 ·exact (k3.mono (by intro y hy;simp[hy])).setCell (.inl (by simp)) _ _
theorem a0J.putr{x:Avl.It}{l r r':Avl.S}(h:a0J w b x l r pl pr Fl Fr)(hb:b ∉ G)(hl:∀ y∈Fl,y ∉ G)(k1:a2p w2 r' (.pointer u) F')(k2:∀ k∈F',k∈G\/w.heap.size<=k)(k3:Off G w w2):
  a0J (w2.setCell ⟨b,7,none⟩ (.pointer u)) b x l r' pl u Fl F'/\(∀ k∈b :: (Fl++F'),k∈b :: (Fl++G)\/w.heap.size<=k)/\Off (b :: (Fl++G)) w (w2.setCell ⟨b,7,none⟩ (.pointer u)):=by
 obtain⟨n1,n2,n3,n4,n5,n6,n7,n8⟩:=h.parts;have hlt:=h.lt;refine⟨a0J.setr (h.n.off k3 hb) (k3.cell hb h.c6) (h.l.off k3 hl) k1 ?_,fun k hk=>?_,?_⟩
 ·refine List.nodup_cons.2 ⟨fun e=>?_,List.nodup_append.2 ⟨n7,k1.nodup,fun y hy z hz e=>?_⟩⟩
  ·rcases List.mem_append.1 e with e|e
   ·exact n1 e
   ·rcases k2 b e with e|e
    ·exact hb e
    ·have:=hlt b (by simp);omega
  ·subst e;rcases k2 y hz with e|e
   ·exact hl y hy e
   ·have:=hlt y (by simp[hy]);omega
 ·rcases List.mem_cons.1 hk with rfl|hk
  ·exact .inl (by simp)
  ·rcases List.mem_append.1 hk with hk|hk
   ·exact .inl (by simp[hk])
   ·rcases k2 k hk with e|e
    ·exact .inl (by simp[e])
    ·exact .inr e
 ·exact (k3.mono (by intro y hy;simp[hy])).setCell (.inl (by simp)) _ _
theorem size_put(x:Avl.It):∀ t:Avl.S,Avl.size (Avl.put x t)<=Avl.size t+1
 |.nil=>by
  rw[<- Avl.a1k,Avl.put,Avl.a1G];simp[Avl.a0w,Avl.size]
 |.node y l r=>by
  have h1:=size_put x l;have h2:=size_put x r;rw[<- Avl.a1k] at h1 h2;rw[<- Avl.a1k,Avl.put];have e1:=Avl.a1k l;have e2:=Avl.a1k r
  split
  ·rw[Avl.a1G];simp only[List.length_append,List.length_cons,Avl.size];omega
  ·split
   ·rw[Avl.a1G];simp only[List.length_append,List.length_cons,Avl.size];omega
   ·rw[Avl.a1G];simp only[List.length_append,List.length_cons,Avl.size];omega
theorem c4R(x:Avl.It):∀ (t:Avl.S)(u:Option Addr)(F:List Nat)(bk:Nat)(w:World),a2p w t (.pointer u) F->a0J w bk x .nil .nil none none [] []->bk ∉ F->Avl.size t<=10000->(∀ z∈Avl.a0w t,¬ (z.f=x.f/\z.n=x.n)) ->
  Calls Tryz.prog 220 #[.pointer u,.pointer (some ⟨bk,0,none⟩)] w (a7S w (bk :: F) (Avl.put x t)):=by
 intro t
 induction t with
 |nil =>
  intro u F bk w h hb _ _ _;obtain⟨hu,rfl⟩:=h
  cases hu
  have HB:=a0b (a1W w bk x .nil .nil none none [] [] hb (by simp[Avl.ht]) (by simp[Avl.ht]));clear hb
  go_enter Tryz.func220,Tryz.ntmps220
  go_wp2_with fail
  refine HB.out.mono ?_;rintro e w2 ⟨u2,F2,rfl,k1,k2,k3⟩;have HK:Hid (a7S w [bk] (Avl.put x .nil) (.returned (.pointer u2)) w2):=⟨u2,F2,rfl,k1,fun k hk=>.inl (k2 k hk),k3⟩;clear k1 k2 k3 HB
  go_wp2_with fail
  go_ret;exact HK.out
 |node y l r ihl ihr =>
  intro u F bk w h hb hbF hsz hnot;have IHL:=a0b ihl;have IHR:=a0b ihr;clear ihl ihr;obtain⟨b,pl,pr,Fl,Fr,rfl,rfl,hh,_,_⟩:=h.half;have hyn:¬ (y.f=x.f/\y.n=x.n):=hnot y (by simp[Avl.a0w]);have sl:=size_put x l;have sr:=size_put x r;have hs:Avl.size (.node y l r)=1+Avl.size l+Avl.size r:=rfl
  have hside:Avl.side x.f x.n y<0\/0<Avl.side x.f x.n y:=by
   by_cases a:Avl.side x.f x.n y<0
   ·exact .inl a
   ·refine .inr ?_;rw[Avl.a4j] at a;rw[Avl.a6A];omega
  have a0:=hb.n.c0;have a2:=hb.n.c2;have CM:=a0b (fun w' k'=>a9L b y x.f x.n w' (hh.n.off (G:=[]) k' (by simp)));rcases hside with a|a
  ·have ep:Avl.put x (.node y l r)=Avl.bal y (Avl.put x l) r:=by rw[Avl.put,if_pos a]
   rw[ep]
   have PT:Hid (∀ w2,Below w.heap.size w w2->Calls Tryz.prog 220 #[.pointer pl,.pointer (some ⟨bk,0,none⟩)] w2 (a7S w2 (bk :: Fl) (Avl.put x l))) :=
    fun w2 kb=>IHL.out pl Fl bk w2 (hh.l.later kb) (hb.same (Off.of_below kb)) (fun e=>hbF (by simp[e])) (by omega) (fun z hz=>hnot z (by simp[Avl.a0w,hz]))
   have HH:=a0b (fun w2 (kb:Below w.heap.size w w2)=>hh.same (Off.of_below kb))
   have hne:b ∉ bk :: Fl:=by
    simp only[List.mem_cons,not_or];exact⟨fun e=>hbF (by simp[e]),hh.parts.1⟩
   have hrr:∀ y∈Fr,y ∉ bk :: Fl:=by
    intro y hy;simp only[List.mem_cons,not_or];exact⟨fun e=>hbF (by simp[<- e,hy]),hh.parts.2.2.2.2.1 y hy⟩
   have hsz':Avl.ht (Avl.put x l)<=30000:=by have:=Avl.a2D (Avl.put x l);omega
   have hsz2:Avl.ht r<=30000:=by have:=Avl.a2D r;omega
   clear hh hb IHL IHR hnot hs sl sr hyn ep
   go_enter Tryz.func220,Tryz.ntmps220
   go_upto_region 3 with fail
   go_region_held3 (fun w'=>w'.cell? ⟨bk,0,none⟩=some (.int .i64 x.f)/\w'.cell? ⟨bk,2,none⟩=some (.int .i64 x.n)/\Below w.heap.size w w')
    (first
     |exact⟨a0,a2,a0q _⟩
     |(go_split_ands;exact⟨a0a hbf (by assumption),a0a hbf (by assumption),a0j (by assumption) hbf (zq _)⟩))
    (first
     |(go_at_call 263;go_split_ands;refine (CM.out _ (Off.of_below (by assumption))).mono ?_;rintro e w2 ⟨rfl,hbf⟩))
   have hB:Below w.heap.size w w2:=by go_split_ands;assumption
   have hh2:=HH.out w2 hB;have c6:=hh2.c6;have HB:=a0b hB;have HH2:=a0b hh2;clear hB hh2 HH CM a0 a2
   go_wp2_with fail
   refine (PT.out _ HB.out).mono ?_;rintro e w3 ⟨u3,F3,rfl,k1,k2,k3⟩;obtain⟨m1,m2,m3⟩:=HH2.out.putl hne hrr k1 k2 k3;have d6:=k3.cell (o:=6) hne c6;have f6:=(k3.frozen (o:=6) hne HH2.out.n.lt).trans (HH2.out.n.fz 6);have M:=a0b (And.intro m1 (And.intro m2 m3));clear m1 m2 m3 k1 k2 k3 c6 PT HH2
   go_wp2_with fail
   refine (a1W _ b y (Avl.put x l) r _ _ _ _ M.out.1 hsz' hsz2).mono ?_;rintro e w4 ⟨u4,F4,rfl,k1,k2,k3⟩
   have HK:Hid (a7S w (bk :: (b :: (Fl++Fr))) (Avl.bal y (Avl.put x l) r) (.returned (.pointer u4)) w4):=by
    have z1:=HB.out.size;have z2:=M.out.2.1;refine⟨u4,F4,rfl,k1,fun k hk=>?_,?_⟩
    ·have:=z2 k (k2 k hk);simp only[List.mem_cons,List.mem_append] at this ⊢
     grind
    ·have o1:Off (bk :: (b :: (Fl++Fr))) w _:=(Off.of_below HB.out).trans (M.out.2.2.mono (by intro k hk;simp only[List.mem_cons,List.mem_append] at hk ⊢;grind));refine o1.trans' k3 (fun k hk=>?_);have:=z2 k hk;simp only[List.mem_cons,List.mem_append] at this ⊢
     grind
   clear k1 k2 k3 M HB d6 f6
   go_wp2_with fail
   go_ret;exact HK.out
  ·have a':¬ Avl.side x.f x.n y<0:=by omega
   have ep:Avl.put x (.node y l r)=Avl.bal y l (Avl.put x r):=by rw[Avl.put,if_neg a',if_pos a]
   rw[ep]
   have PT:Hid (∀ w2,Below w.heap.size w w2->Calls Tryz.prog 220 #[.pointer pr,.pointer (some ⟨bk,0,none⟩)] w2 (a7S w2 (bk :: Fr) (Avl.put x r))) :=
    fun w2 kb=>IHR.out pr Fr bk w2 (hh.r.later kb) (hb.same (Off.of_below kb)) (fun e=>hbF (by simp[e])) (by omega) (fun z hz=>hnot z (by simp[Avl.a0w,hz]))
   have HH:=a0b (fun w2 (kb:Below w.heap.size w w2)=>hh.same (Off.of_below kb))
   have hne:b ∉ bk :: Fr:=by
    simp only[List.mem_cons,not_or];exact⟨fun e=>hbF (by simp[e]),hh.parts.2.1⟩
   have hrr:∀ y∈Fl,y ∉ bk :: Fr:=by
    intro y hy;simp only[List.mem_cons,not_or];exact⟨fun e=>hbF (by simp[<- e,hy]),hh.parts.2.2.2.2.2.1 y hy⟩
   have hsz':Avl.ht (Avl.put x r)<=30000:=by have:=Avl.a2D (Avl.put x r);omega
   have hsz2:Avl.ht l<=30000:=by have:=Avl.a2D l;omega
   clear hh hb IHL IHR hnot hs sl sr hyn ep
   go_enter Tryz.func220,Tryz.ntmps220
   go_upto_region 3 with fail
   go_region_held3 (fun w'=>w'.cell? ⟨bk,0,none⟩=some (.int .i64 x.f)/\w'.cell? ⟨bk,2,none⟩=some (.int .i64 x.n)/\Below w.heap.size w w')
    (first
     |exact⟨a0,a2,a0q _⟩
     |(go_split_ands;exact⟨a0a hbf (by assumption),a0a hbf (by assumption),a0j (by assumption) hbf (zq _)⟩))
    (first
     |(go_at_call 263;go_split_ands;refine (CM.out _ (Off.of_below (by assumption))).mono ?_;rintro e w2 ⟨rfl,hbf⟩))
   have hB:Below w.heap.size w w2:=by go_split_ands;assumption
   have hh2:=HH.out w2 hB;have c6:=hh2.c7;have HB:=a0b hB;have HH2:=a0b hh2;clear hB hh2 HH CM a0 a2
   go_wp2_with fail
   refine (PT.out _ HB.out).mono ?_;rintro e w3 ⟨u3,F3,rfl,k1,k2,k3⟩;obtain⟨m1,m2,m3⟩:=HH2.out.putr hne hrr k1 k2 k3;have d6:=k3.cell (o:=7) hne c6;have f6:=(k3.frozen (o:=7) hne HH2.out.n.lt).trans (HH2.out.n.fz 7);have M:=a0b (And.intro m1 (And.intro m2 m3));clear m1 m2 m3 k1 k2 k3 c6 PT HH2
   go_wp2_with fail
   refine (a1W _ b y l (Avl.put x r) _ _ _ _ M.out.1 hsz2 hsz').mono ?_;rintro e w4 ⟨u4,F4,rfl,k1,k2,k3⟩
   have HK:Hid (a7S w (bk :: (b :: (Fl++Fr))) (Avl.bal y l (Avl.put x r)) (.returned (.pointer u4)) w4):=by
    have z1:=HB.out.size;have z2:=M.out.2.1;refine⟨u4,F4,rfl,k1,fun k hk=>?_,?_⟩
    ·have:=z2 k (k2 k hk);simp only[List.mem_cons,List.mem_append] at this ⊢
     grind
    ·have o1:Off (bk :: (b :: (Fl++Fr))) w _:=(Off.of_below HB.out).trans (M.out.2.2.mono (by intro k hk;simp only[List.mem_cons,List.mem_append] at hk ⊢;grind));refine o1.trans' k3 (fun k hk=>?_);have:=z2 k hk;simp only[List.mem_cons,List.mem_append] at this ⊢
     grind
   clear k1 k2 k3 M HB d6 f6
   go_wp2_with fail
   go_ret;exact HK.out
theorem b0v(x:Avl.It)(l r:Avl.S):Avl.size (Avl.a5P x l r)=Avl.size l+Avl.size r:=by
 have:=congrArg List.length (Avl.a7D x l r);simp only[List.length_cons,List.length_append,Avl.a1k] at this;omega
def c1F(w:World)(F:List Nat)(x:Avl.It)(t':Avl.S)(e:Ending)(w':World):Prop :=
 ∃ (b1:Nat) (u:Option Addr) (F':List Nat),e=.returned (.tuple #[.pointer (some ⟨b1,0,none⟩),.pointer u])/\a2G w' b1 x/\a2p w' t' (.pointer u) F'/\b1 ∉ F'/\b1∈F/\(∀ k∈F',k∈F)/\Off F w w'
theorem b1w:∀ (l:Avl.S)(x:Avl.It)(r:Avl.S)(u:Option Addr)(F:List Nat)(w:World),a2p w (.node x l r) (.pointer u) F->Avl.size l<=10000->Avl.size r<=10000 ->
  Calls Tryz.prog 307 #[.pointer u] w (c1F w F (Avl.a8O x l r) (Avl.a5P x l r)):=by
 intro l
 induction l with
 |nil =>
  intro x r u F w h _ _;obtain⟨b,pl,pr,Fl,Fr,rfl,rfl,hh,_,_⟩:=h.half;obtain⟨hp,rfl⟩:=hh.l
  cases hp
  have c6:=hh.c6;have c7:=hh.c7
  have HK:Hid (c1F w (b :: ([]++Fr)) x r (.returned (.tuple #[.pointer (some ⟨b,0,none⟩),.pointer pr])) w.drew):=by
   have ho:Off [] w w.drew:=(Off.refl _ _).drew;exact⟨b,pr,Fr,rfl,hh.n.off ho (by simp),hh.r.same ho,hh.parts.2.1,by simp,fun k hk=>by simp[hk],(Off.refl _ _).drew⟩
  clear h hh
  go_enter Tryz.func307,Tryz.ntmps307
  go_wp2_with fail
  go_region_held3 (fun w'=>w'.cell? ⟨b,7,none⟩=some (.pointer pr)) (exact c7) (fail)
  go_wp2_with fail
  go_ret2;exact HK.out
 |node y a c ihl _ =>
  intro x r u F w h hs1 hs2;have IH:=a0b ihl;clear ihl;obtain⟨b,pl,pr,Fl,Fr,rfl,rfl,hh,_,_⟩:=h.half;have es:Avl.size (.node y a c)=1+Avl.size a+Avl.size c:=rfl;have TK:=a0b (IH.out y c pl Fl w hh.l (by omega) (by omega));obtain⟨bl,pa,pb,Fa,Fb,rfl,hFl,_,_,_⟩:=hh.l.half;clear hFl;have c6:=hh.c6;have e1:=b0v y a c;have e2:=Avl.a2D (Avl.a5P y a c);have e3:=Avl.a2D r;have g1:Avl.ht (Avl.a5P y a c)<=30000:=by omega
  have g2:Avl.ht r<=30000:=by omega
  have HH:=a0b hh;have eF:Avl.a8O x (.node y a c) r=Avl.a8O y a c:=rfl;have eR:Avl.a5P x (.node y a c) r=Avl.bal x (Avl.a5P y a c) r:=rfl;rw[eF,eR];generalize Avl.a8O y a c=fx at *;generalize Avl.a5P y a c=tx at *;clear h hh es e1 e2 e3 IH hs1 hs2 eF eR
  go_enter Tryz.func307,Tryz.ntmps307
  go_wp2_with fail
  refine TK.out.mono ?_;rintro e w1 ⟨b1,u1,F1,rfl,t1,t2,t3,t4,t5,t6⟩;obtain⟨m1,m2,m3⟩:=HH.out.newl t2 (fun k hk=>.inl (t5 k hk)) t6;have d6:=t6.cell (o:=6) HH.out.parts.1 c6;have f6:=(t6.frozen (o:=6) HH.out.parts.1 HH.out.n.lt).trans (HH.out.n.fz 6);have hb1:b1≠b:=by rintro rfl;exact HH.out.parts.1 t4
  have hb2:b1 ∉ Fr:=fun e=>HH.out.parts.2.2.2.2.1 b1 e t4
  have n1:a2G (w1.setCell ⟨b,6,none⟩ (.pointer u1)) b1 fx:=t1.off (Off.set0 ..) (by simpa using hb1);have M:=a0b (And.intro m1 (And.intro m3 (And.intro n1 (And.intro t3 (And.intro t4 (And.intro t5 (And.intro hb1 hb2)))))));clear m1 m2 m3 n1 t1 t2 t3 t4 t5 t6 hb1 hb2 TK c6
  go_wp2_with fail
  refine (a1W _ b x tx r _ _ _ _ M.out.1 g1 g2).mono ?_;rintro e w4 ⟨u4,F4,rfl,k1,k2,k3⟩
  have HK:Hid (c1F w (b :: (Fl++Fr)) fx (Avl.bal x tx r) (.returned (.tuple #[.pointer (some ⟨b1,0,none⟩),.pointer u4])) w4):=by
   obtain⟨m1,m3,n1,t3,t4,t5,hb1,hb2⟩:=M.out;have hn:b1 ∉ b :: (F1++Fr):=by simp only[List.mem_cons,List.mem_append,not_or];exact⟨hb1,t3,hb2⟩
   refine⟨b1,u4,F4,rfl,n1.off k3 hn,k1,fun e=>hn (k2 _ e),by simp[t4],fun k hk=>?_,m3.trans' k3 (fun k hk=>?_)⟩
   ·have:=k2 k hk;simp only[List.mem_cons,List.mem_append] at this ⊢
    grind
   ·simp only[List.mem_cons,List.mem_append] at hk ⊢
    grind
  clear k1 k2 k3 M d6 f6
  go_wp2_with fail
  go_ret2;exact HK.out
theorem b8m(l:Avl.S)(u:Option Addr)(F:List Nat)(w:World)(h:a2p w l (.pointer u) F):
  Calls Tryz.prog 297 #[.pointer u,.pointer none] w (a2h w F l):=by
 go_enter Tryz.func297,Tryz.ntmps297
 go_wp2_with fail
 go_ret;exact⟨u,F,rfl,h,fun _ hk=>hk,Off.refl _ _⟩
theorem b8n(l r:Avl.S)(pl pr:Option Addr)(Fl Fr:List Nat)(w:World)(hl:a2p w l (.pointer pl) Fl)(hr:a2p w r (.pointer pr) Fr)(hd:∀ k∈Fl,k ∉ Fr)(hs1:Avl.size l<=10000)(hs2:Avl.size r<=10000):
  Calls Tryz.prog 297 #[.pointer pl,.pointer pr] w (a2h w (Fl++Fr) (Avl.a5d l r)):=by
 cases r with
 |nil =>
  obtain⟨hp,rfl⟩:=hr
  cases hp
  rw[List.append_nil];exact b8m l pl Fl w hl
 |node y a c =>
  have es:Avl.size (.node y a c)=1+Avl.size a+Avl.size c:=rfl;have TK:=a0b (b1w a y c pr Fr w hr (by omega) (by omega));obtain⟨br,pa,pb,Fa,Fb,rfl,hFl,_,_,_⟩:=hr.half;clear hFl;have e1:=b0v y a c;have e2:=Avl.a2D (Avl.a5P y a c);have e3:=Avl.a2D l;have g1:Avl.ht (Avl.a5P y a c)<=30000:=by omega
  have g2:Avl.ht l<=30000:=by omega
  have eR:Avl.a5d l (.node y a c)=Avl.bal (Avl.a8O y a c) l (Avl.a5P y a c):=rfl;rw[eR];generalize Avl.a8O y a c=fx at *;generalize Avl.a5P y a c=tx at *;have HL:=a0b hl;have HD:=a0b hd;clear hl hr hd es e1 e2 e3 eR hs1 hs2
  go_enter Tryz.func297,Tryz.ntmps297
  go_wp2_with fail
  refine TK.out.mono ?_;rintro e w1 ⟨b1,u1,F1,rfl,t1,t2,t3,t4,t5,t6⟩;have hl1:=HL.out.off t6 HD.out;have hnl:b1 ∉ Fl:=fun e=>HD.out b1 e t4
  have hdd:∀ k∈Fl,k ∉ F1:=fun k hk e=>HD.out k hk (t5 k e)
  obtain⟨y6,d6⟩:=t1.c6;obtain⟨y7,d7⟩:=t1.c7;have f6:=t1.fz 6;have f7:=t1.fz 7;have nd:(b1 :: (Fl++F1)).Nodup:=List.nodup_cons.2 ⟨by simp only[List.mem_append,not_or];exact⟨hnl,t3⟩,List.nodup_append.2 ⟨hl1.nodup,t2.nodup,fun p hp q hq e=>hdd p hp (e ▸ hq)⟩⟩
  have h1:a0J ((w1.setCell ⟨b1,6,none⟩ (.pointer pl)).setCell ⟨b1,7,none⟩ (.pointer u1)) b1 fx l tx pl u1 Fl F1 :=
   a0J.setr (t1.c5K pl) (zm _ _ _ d6) (hl1.off (Off.set0 ..) (fun k hk=>by simp;rintro rfl;exact hnl hk)) (t2.off (Off.set0 ..) (fun k hk=>by simp;rintro rfl;exact t3 hk)) nd
  have o1:Off (Fl++Fr) w ((w1.setCell ⟨b1,6,none⟩ (.pointer pl)).setCell ⟨b1,7,none⟩ (.pointer u1)) :=
   ((t6.mono (by intro k hk;simp[hk])).setCell (.inl (by simp[t4])) _ _).setCell (.inl (by simp[t4])) _ _
  have M:=a0b (And.intro h1 (And.intro o1 (And.intro t4 t5)));clear h1 o1 t1 t2 t3 t4 t5 t6 nd hdd hnl hl1 TK HL HD
  go_wp2_with fail
  refine (a1W _ b1 fx l tx _ _ _ _ M.out.1 g2 g1).mono ?_;rintro e w4 ⟨u4,F4,rfl,k1,k2,k3⟩
  have HK:Hid (a2h w (Fl++Fr) (Avl.bal fx l tx) (.returned (.pointer u4)) w4):=by
   obtain⟨h1,o1,t4,t5⟩:=M.out
   have hsub:∀ k∈b1 :: (Fl++F1),k∈Fl++Fr:=by
    intro k hk;simp only[List.mem_cons,List.mem_append] at hk ⊢
    grind
   exact⟨u4,F4,rfl,k1,fun k hk=>hsub k (k2 k hk),o1.trans' k3 (fun k hk=>.inl (hsub k hk))⟩
  clear k1 k2 k3 M d6 d7 f6 f7
  go_wp2_with fail
  go_ret;exact HK.out
theorem b4D(l r:Avl.S):Avl.size (Avl.a5d l r)=Avl.size l+Avl.size r:=by
 have:=congrArg List.length (Avl.a8d l r);simp only[List.length_append,Avl.a1k] at this;omega
theorem b5X(x:Avl.It)(l r:Avl.S):Avl.size (Avl.bal x l r)=1+Avl.size l+Avl.size r:=by
 have:=congrArg List.length (Avl.a1G x l r);simp only[List.length_append,List.length_cons,Avl.a1k] at this;omega
theorem a4W(f n:Int):∀ t:Avl.S,Avl.size (Avl.drop f n t)<=Avl.size t
 |.nil=>by simp[Avl.drop]
 |.node y l r=>by
  have h1:=a4W f n l;have h2:=a4W f n r;rw[Avl.drop]
  split
  ·rw[b5X];simp only[Avl.size];omega
  ·split
   ·rw[b5X];simp only[Avl.size];omega
   ·rw[b4D];simp only[Avl.size];omega
theorem c3t(f n:Int):∀ (t:Avl.S)(u:Option Addr)(F:List Nat)(w:World),a2p w t (.pointer u) F->Avl.size t<=10000 ->
  Calls Tryz.prog 280 #[.pointer u,.int .i64 f,.int .i64 n] w (a2h w F (Avl.drop f n t)):=by
 intro t
 induction t with
 |nil =>
  intro u F w h _;obtain⟨hu,rfl⟩:=h
  cases hu
  go_enter Tryz.func280,Tryz.ntmps280
  go_wp2_with fail
  go_ret;exact⟨none,[],rfl,⟨rfl,rfl⟩,fun _ hk=>hk,Off.refl _ _⟩
 |node y l r ihl ihr =>
  intro u F w h hsz;have IHL:=a0b ihl;have IHR:=a0b ihr;clear ihl ihr;obtain⟨b,pl,pr,Fl,Fr,rfl,rfl,hh,_,_⟩:=h.half;have hs:Avl.size (.node y l r)=1+Avl.size l+Avl.size r:=rfl;have sl:=a4W f n l;have sr:=a4W f n r;have CM:=a0b (fun w' k'=>a9L b y f n w' (hh.n.off (G:=[]) k' (by simp)));have HH:=a0b (fun w2 (kb:Below w.heap.size w w2)=>hh.same (Off.of_below kb))
  by_cases a:Avl.side f n y<0
  ·have ep:Avl.drop f n (.node y l r)=Avl.bal y (Avl.drop f n l) r:=by rw[Avl.drop,if_pos a]
   rw[ep];have DR:=a0b (fun w2 (kb:Below w.heap.size w w2)=>IHL.out pl Fl w2 (hh.l.later kb) (by omega));have hne:b ∉ Fl:=hh.parts.1;have hsz':Avl.ht (Avl.drop f n l)<=30000:=by have:=Avl.a2D (Avl.drop f n l);omega
   have hsz2:Avl.ht r<=30000:=by have:=Avl.a2D r;omega
   clear hh h IHL IHR hs sl sr ep
   go_enter Tryz.func280,Tryz.ntmps280
   go_wp2_with fail
   refine (CM.out _ (Off.refl _ _)).mono ?_;rintro e w2 ⟨rfl,hB⟩;have hh2:=HH.out w2 hB;have c6:=hh2.c6;have HB:=a0b hB;have HH2:=a0b hh2;clear hB hh2 HH CM
   go_wp2_with fail
   refine (DR.out _ HB.out).mono ?_;rintro e w3 ⟨u3,F3,rfl,k1,k2,k3⟩;obtain⟨m1,m2,m3⟩:=HH2.out.newl k1 (fun k hk=>.inl (k2 k hk)) k3;have d6:=k3.cell (o:=6) hne c6;have f6:=(k3.frozen (o:=6) hne HH2.out.n.lt).trans (HH2.out.n.fz 6);have M:=a0b (And.intro m1 (And.intro k2 m3));clear m1 m2 m3 k1 k2 k3 c6 DR HH2
   go_wp2_with fail
   refine (a1W _ b y (Avl.drop f n l) r _ _ _ _ M.out.1 hsz' hsz2).mono ?_;rintro e w4 ⟨u4,F4,rfl,k1,k2,k3⟩
   have HK:Hid (a2h w (b :: (Fl++Fr)) (Avl.bal y (Avl.drop f n l) r) (.returned (.pointer u4)) w4):=by
    obtain⟨m1,m2,m3⟩:=M.out
    have hsub:∀ k∈b :: (F3++Fr),k∈b :: (Fl++Fr):=by
     intro k hk;simp only[List.mem_cons,List.mem_append] at hk ⊢
     grind
    exact⟨u4,F4,rfl,k1,fun k hk=>hsub k (k2 k hk),((Off.of_below HB.out).trans m3).trans' k3 (fun k hk=>.inl (hsub k hk))⟩
   clear k1 k2 k3 M HB d6 f6
   go_wp2_with fail
   go_ret;exact HK.out
  ·by_cases a2:0<Avl.side f n y
   ·have ep:Avl.drop f n (.node y l r)=Avl.bal y l (Avl.drop f n r):=by rw[Avl.drop,if_neg a,if_pos a2]
    rw[ep];have DR:=a0b (fun w2 (kb:Below w.heap.size w w2)=>IHR.out pr Fr w2 (hh.r.later kb) (by omega));have hne:b ∉ Fr:=hh.parts.2.1;have hsz':Avl.ht (Avl.drop f n r)<=30000:=by have:=Avl.a2D (Avl.drop f n r);omega
    have hsz2:Avl.ht l<=30000:=by have:=Avl.a2D l;omega
    clear hh h IHL IHR hs sl sr ep
    go_enter Tryz.func280,Tryz.ntmps280
    go_wp2_with fail
    refine (CM.out _ (Off.refl _ _)).mono ?_;rintro e w2 ⟨rfl,hB⟩;have hh2:=HH.out w2 hB;have c6:=hh2.c7;have HB:=a0b hB;have HH2:=a0b hh2;clear hB hh2 HH CM
    go_wp2_with fail
    refine (DR.out _ HB.out).mono ?_;rintro e w3 ⟨u3,F3,rfl,k1,k2,k3⟩;obtain⟨m1,m2,m3⟩:=HH2.out.newr k1 (fun k hk=>.inl (k2 k hk)) k3;have d6:=k3.cell (o:=7) hne c6;have f6:=(k3.frozen (o:=7) hne HH2.out.n.lt).trans (HH2.out.n.fz 7);have M:=a0b (And.intro m1 (And.intro k2 m3));clear m1 m2 m3 k1 k2 k3 c6 DR HH2
    go_wp2_with fail
    refine (a1W _ b y l (Avl.drop f n r) _ _ _ _ M.out.1 hsz2 hsz').mono ?_;rintro e w4 ⟨u4,F4,rfl,k1,k2,k3⟩
    have HK:Hid (a2h w (b :: (Fl++Fr)) (Avl.bal y l (Avl.drop f n r)) (.returned (.pointer u4)) w4):=by
     obtain⟨m1,m2,m3⟩:=M.out
     have hsub:∀ k∈b :: (Fl++F3),k∈b :: (Fl++Fr):=by
      intro k hk;simp only[List.mem_cons,List.mem_append] at hk ⊢
      grind
     exact⟨u4,F4,rfl,k1,fun k hk=>hsub k (k2 k hk),((Off.of_below HB.out).trans m3).trans' k3 (fun k hk=>.inl (hsub k hk))⟩
    clear k1 k2 k3 M HB d6 f6
    go_wp2_with fail
    go_ret;exact HK.out
   ·have ep:Avl.drop f n (.node y l r)=Avl.a5d l r:=by rw[Avl.drop,if_neg a,if_neg a2]
    rw[ep];have JN:=a0b (fun w2 (kb:Below w.heap.size w w2)=>b8n l r pl pr Fl Fr w2 (hh.l.later kb) (hh.r.later kb) hh.parts.2.2.2.2.2.1 (by omega) (by omega))
    have NB:Hid (b ∉ Fl++Fr):=by
     have h1:=hh.parts.1;have h2:=hh.parts.2.1;show b ∉ Fl++Fr;simp only[List.mem_append,not_or];exact⟨h1,h2⟩
    clear hh h IHL IHR hs sl sr ep
    go_enter Tryz.func280,Tryz.ntmps280
    go_wp2_with fail
    refine (CM.out _ (Off.refl _ _)).mono ?_;rintro e w2 ⟨rfl,hB⟩;have c6:=(HH.out w2 hB).c6;have c7:=(HH.out w2 hB).c7;have HB:=a0b hB;clear hB CM HH
    go_upto_region 4 with fail
    go_region_held3 (fun w'=>w'.cell? ⟨b,6,none⟩=some (.pointer pl)/\w'.cell? ⟨b,7,none⟩=some (.pointer pr))
     (first
      |exact⟨c6,c7⟩
      |exact⟨k9,k8⟩)
     (first
      |(go_at_call 297;refine (JN.out _ (a0j HB.out (a0q _) (zq _))).mono ?_;rintro e w3 ⟨u3,F3,rfl,k1,k2,k3⟩;have k9:=k3.cell (o:=6) NB.out c6;have k8:=k3.cell (o:=7) NB.out c7))
    have HK:Hid (a2h w (b :: (Fl++Fr)) (Avl.a5d l r) (.returned (.pointer u3)) w3) :=
     ⟨u3,F3,rfl,k1,fun k hk=>by have:=k2 k hk;simp only[List.mem_cons];exact .inr this,(Off.of_below (F:=b :: (Fl++Fr)) HB.out).trans ((Off.refl (b :: (Fl++Fr)) w2).drew.trans (k3.mono (fun k hk=>by simp only[List.mem_cons];exact .inr hk)))⟩
    clear k1 k2 k3 k8 k9 HB JN c6 c7
    go_wp2_with fail
    go_ret;exact HK.out
def a3i(w:World)(tb o:Nat)(F:List Nat)(t':Avl.S)(w':World):Prop :=
 ∃ (u':Option Addr) (F':List Nat),w'.cell? ⟨tb,o,none⟩=some (.pointer u')/\a2p w' t' (.pointer u') F'/\(∀ k∈F',k∈F\/w.heap.size<=k)/\Off (tb :: F) w w'/\(∀ o',o'≠o->w'.cell? ⟨tb,o',none⟩=w.cell? ⟨tb,o',none⟩)/\∀ o',w'.frozen? ⟨tb,o',none⟩=w.frozen? ⟨tb,o',none⟩
theorem b5P{w5:World}{F5:List Nat}{t':Avl.S}{u5:Option Addr}(h1:Below w.heap.size w w4)(htb:tb<w.heap.size)(hn:tb ∉ F)(hG:∀ k∈G,k∈F\/w.heap.size<=k)(k1:a2p w5 t' (.pointer u5) F5)(k2:∀ k∈F5,k∈G\/w4.heap.size<=k)(k3:Off G w4 w5)(z0:w5.cell? ⟨tb,o,none⟩=some v):a3i w tb o F t' (w5.setCell ⟨tb,o,none⟩ (.pointer u5)):=by
 have hs:=h1.size;have o4:Off [] w w4:=Off.of_below h1;have hnG:tb ∉ G:=fun e=>by rcases hG tb e with h|h;exact hn h;omega
 have hn5:tb ∉ F5:=fun e=>by rcases k2 tb e with h|h;exact hnG h;omega
 have e5:w5.heap[tb]?=w.heap[tb]?:=(k3.block tb (by omega) hnG).trans (o4.block tb htb (by simp));refine⟨u5,F5,World.cell?_setCell_same _ _ _ z0,k1.off (Off.set0 ..) (fun x hx=>by simp;rintro rfl;exact hn5 hx),fun k hk=>?_,?_,fun o' ho=>?_,fun o'=>?_⟩
 ·rcases k2 k hk with h|h
  ·exact hG k h
  ·exact .inr (by omega)
 ·have o5:Off (tb :: F) w w5:=(Off.of_below (F:=tb :: F) h1).trans' k3 (fun x hx=>by rcases hG x hx with h|h;exact .inl (by simp[h]);exact .inr h);exact o5.setCell (.inl (by simp)) _ _
 ·exact (zS _ _ _ _ (by simp)).trans (zo (w:=w) e5)
 ·refine (zF ..).trans ?_;simp only[World.frozen?,e5]
theorem b9x(w:World)(f t n:Int)(v:Nat):a0J (w.alloc (.cells #[.int .i64 f,.int .i64 t,.int .i64 n,.pointer (some ⟨v,0,none⟩),.int .i64 0,.int .i64 0,.pointer none,.pointer none] 304)) w.heap.size ⟨f,t,n,v⟩ .nil .nil none none [] [] :=
 ⟨⟨by simp,by simp,by simp,by simp,⟨0,by simp⟩,⟨0,by simp⟩,⟨none,by simp⟩,⟨none,by simp⟩,fun o=>World.frozen?_alloc_new w _ _ o⟩,by simp,by simp,⟨rfl,rfl⟩,⟨rfl,rfl⟩,by simp⟩
theorem c5H(t:Avl.S)(tb o:Nat)(u:Option Addr)(F:List Nat)(x:Avl.It)(w:World)(c:w.cell? ⟨tb,o,none⟩=some (.pointer u))(fz:w.frozen? ⟨tb,o,none⟩=false)(hn:tb ∉ F)(h:a2p w t (.pointer u) F)(hs:Avl.size t<=10000)(hnot:∀ z∈Avl.a0w t,¬ (z.f=x.f/\z.n=x.n)):
  Calls Tryz.prog 159 #[.pointer (some ⟨tb,o,none⟩),.int .i64 x.f,.int .i64 x.t,.int .i64 x.n,.pointer (some ⟨x.v,0,none⟩)] w fun e w'=>e=.returned (.tuple #[])/\a3i w tb o F (Avl.put x t) w':=by
 have htb:=World.block_lt_of_cell? _ _ c;have hFlt:=h.lt;have hX:Below w.heap.size w (w.alloc (.cells #[.int .i64 x.f,.int .i64 x.t,.int .i64 x.n,.pointer (some ⟨x.v,0,none⟩),.int .i64 0,.int .i64 0,.pointer none,.pointer none] 304)):=(zr _ _).alloc (zq _) _;have PT:=a0b (c4R x t u F w.heap.size _ (h.later hX) (b9x w x.f x.t x.n x.v) (fun e=>by have:=hFlt _ e;omega) hs hnot);have HX:=a0b hX;have xc:=a0a hX c;have xf:(w.alloc (.cells #[.int .i64 x.f,.int .i64 x.t,.int .i64 x.n,.pointer (some ⟨x.v,0,none⟩),.int .i64 0,.int .i64 0,.pointer none,.pointer none] 304)).frozen? ⟨tb,o,none⟩=false:=((Off.of_below (F:=[]) hX).frozen (by simp) htb).trans fz;have hnb:tb ∉ w.heap.size :: F:=by simp only[List.mem_cons,not_or];exact⟨by simp at htb;omega,hn⟩
 have XC:=a0b (And.intro xc xf);have HF:Hid (∀ k∈F,k<w.heap.size):=hFlt;clear h hX hFlt xc xf hnot
 go_enter Tryz.func159,Tryz.ntmps159
 go_wp2_with fail
 refine PT.out.mono ?_;rintro e w3 ⟨u3,F3,rfl,k1,k2,k3⟩;have d:=k3.cell hnb XC.out.1;have f':=(k3.frozen (o:=o) hnb (World.block_lt_of_cell? _ _ XC.out.1)).trans XC.out.2;have HK:=a0b (b5P HX.out htb hn (fun k hk=>by rcases List.mem_cons.1 hk with rfl|hk;exact .inr (zq _);exact .inl hk) k1 k2 k3 d);clear k1 k2 k3 XC HX PT
 go_wp2_with fail
 go_end0
 exact⟨rfl,HK.out⟩
theorem c3N(t:Avl.S)(tb o:Nat)(u:Option Addr)(F:List Nat)(f n:Int)(w:World)(c:w.cell? ⟨tb,o,none⟩=some (.pointer u))(fz:w.frozen? ⟨tb,o,none⟩=false)(hn:tb ∉ F)(h:a2p w t (.pointer u) F)(hs:Avl.size t<=10000):
  Calls Tryz.prog 253 #[.pointer (some ⟨tb,o,none⟩),.int .i64 f,.int .i64 n] w fun e w'=>e=.returned (.tuple #[])/\a3i w tb o F (Avl.drop f n t) w':=by
 have htb:=World.block_lt_of_cell? _ _ c;have PT:=a0b (c3t f n t u F w h hs);clear h
 go_enter Tryz.func253,Tryz.ntmps253
 go_wp2_with fail
 refine PT.out.mono ?_;rintro e w3 ⟨u3,F3,rfl,k1,k2,k3⟩;have d:=k3.cell hn c;have f':=(k3.frozen (o:=o) hn htb).trans fz;have HK:=a0b (b5P (zr _ _) htb hn (fun k hk=>.inl hk) k1 (fun k hk=>.inl (k2 k hk)) k3 d);clear k1 k2 k3 PT
 go_wp2_with fail
 go_end0
 exact⟨rfl,HK.out⟩
def b1M(A:List Bool->Int):Lev.T:=Lev.canon 20 A 0 1048320
def cnt:List (Int × Int)->List Bool->Int
 |[],_=>0
 |s :: r,p=>Lev.chi 0 1048320 s.1 s.2 p+cnt r p
def a1z(A:List Bool->Int)(L:List (Int × Int))(x:Int)(p:List Bool):Int:=A p+x*cnt L p
theorem b1b(L M:List (Int × Int))(p:List Bool):cnt (L++M) p=cnt L p+cnt M p:=by
 induction L with
 |nil=>simp[cnt]
 |cons s r ih=>simp only[List.cons_append,cnt,ih];omega
theorem b3P(L:List (Int × Int))(p:List Bool):0<=cnt L p/\cnt L p<=L.length:=by
 induction L with
 |nil=>simp[cnt]
 |cons s r ih =>
  have:=Lev.c1r p 0 1048320 s.1 s.2;simp only[cnt,List.length_cons];omega
theorem b7u(A:List Bool->Int)(x:Int):a1z A [] x=A:=by funext p;simp[a1z,cnt]
theorem b3Y(A:List Bool->Int)(L:List (Int × Int))(s:Int × Int)(x:Int):a1z A (L++[s]) x=fun p=>a1z A L x p+x*Lev.chi 0 1048320 s.1 s.2 p:=by
 funext p;simp only[a1z,b1b,cnt,Int.add_zero,Int.mul_add];omega
theorem c2S(A:List Bool->Int)(a b x:Int)(h:a<b):Lev.a6q 20 (b1M A) 0 1048320 a b x=b1M (fun p=>A p+x*Lev.chi 0 1048320 a b p) :=
 Lev.b8T 20 A 0 1048320 a b x (by omega) (by decide) h
theorem c5I{a:Int}{l r:Lev.T}(h1:-1000000<=a/\a<=1000000)(h2:LB l)(h3:LB r)(h4:-100000000<=a+max (Lev.top l) (Lev.top r)/\a+max (Lev.top l) (Lev.top r)<=100000000)(h5:-100000000<=a+min (Lev.bot l) (Lev.bot r)/\a+min (Lev.bot l) (Lev.bot r)<=100000000):LB (Lev.mk a l r):=by
 unfold Lev.mk;split
 ·trivial
 ·exact⟨h1,h4,h5,h2,h3⟩
theorem b9e(a:Int)(l r:Lev.T):Lev.top (Lev.mk a l r)=a+max (Lev.top l) (Lev.top r)/\Lev.bot (Lev.mk a l r)=a+min (Lev.bot l) (Lev.bot r):=by
 unfold Lev.mk;split
 ·rename_i h
  rw[Lev.a3f h.2.1,Lev.a3f h.2.2,h.1];simp[Lev.top,Lev.bot]
 ·exact⟨rfl,rfl⟩
theorem c3E:∀ (n:Nat)(A:List Bool->Int)(lo hi:Int),(∀ p,0<=A p/\A p<=1000000)->n<=50->LB (Lev.canon n A lo hi)/\(0<=Lev.top (Lev.canon n A lo hi)/\Lev.top (Lev.canon n A lo hi)<=1000000*(n+1))/\(0<=Lev.bot (Lev.canon n A lo hi)/\Lev.bot (Lev.canon n A lo hi)<=1000000*(n+1)):=by
 intro n
 induction n with
 |zero =>
  intro A lo hi h _;have h0:=h [];simp only[Lev.canon];have e:=b9e (A []) .nil .nil;simp only[Lev.top,Lev.bot] at e;rw[e.1,e.2];refine⟨c5I (by omega) trivial trivial ?_ ?_,?_,?_⟩ <;> simp[Lev.top,Lev.bot] <;> omega
 |succ n ih =>
  intro A lo hi h hn;have h0:=h [];simp only[Lev.canon]
  split
  ·have e:=b9e (A []) .nil .nil;simp only[Lev.top,Lev.bot] at e;rw[e.1,e.2];refine⟨c5I (by omega) trivial trivial ?_ ?_,?_,?_⟩ <;> simp[Lev.top,Lev.bot] <;> omega
  ·obtain⟨b1,b2,b3⟩:=ih (fun p=>A (false :: p)) lo (Lev.mid lo hi) (fun p=>h _) (by omega);obtain⟨b4,b5,b6⟩:=ih (fun p=>A (true :: p)) (Lev.mid lo hi) hi (fun p=>h _) (by omega);have e:=b9e (A []) (Lev.canon n (fun p=>A (false :: p)) lo (Lev.mid lo hi)) (Lev.canon n (fun p=>A (true :: p)) (Lev.mid lo hi) hi);rw[e.1,e.2];exact⟨c5I (by omega) b1 b4 (by omega) (by omega),by omega,by omega⟩
theorem a9e(h:∀ p,0<=A p/\A p<=1000000):LB (b1M A):=(c3E 20 A 0 1048320 h (by omega)).1
theorem a6L(h:∀ p,0<=A p):Lev.Good (b1M A) 0 1048320:=Lev.b8K 20 A 0 1048320 h
def b0i(A:List Bool->Int)(x:Int):Int:=Lev.lev (b1M A) 0 1048320 x
theorem b0G(A:List Bool->Int)(L:List (Int × Int))(u x:Int)(h0:0<=x)(h1:x<1048320)(hL:∀ s∈L,s.1<s.2):b0i (a1z A L u) x=b0i A x+u*((L.filter fun s=>decide (s.1<=x) && decide (x<s.2)).length:Int):=by
 have key:∀ (n:Nat) (M:List (Int × Int)),M.length=n->(∀ s∈M,s.1<s.2)->b0i (a1z A M u) x=b0i A x+u*((M.filter fun s=>decide (s.1<=x) && decide (x<s.2)).length:Int):=by
  intro n
  induction n with
  |zero =>
   intro M hM _;rw[List.length_eq_zero_iff.1 hM,b7u];simp
  |succ n ih =>
   intro M hM hs;obtain⟨K,s,rfl⟩:∃ K s,M=K++[s]:=⟨M.dropLast,M.getLast (by intro e;simp[e] at hM),(List.dropLast_concat_getLast _).symm⟩;have hK:K.length=n:=by simpa using hM
   rw[b3Y];have e:=Lev.b1L 20 (a1z A K u) 0 1048320 s.1 s.2 u x h0 h1 (by decide) (hs s (by simp));have e':b0i (fun p=>a1z A K u p+u*Lev.chi 0 1048320 s.1 s.2 p) x=b0i (a1z A K u) x+if s.1<=x/\x<s.2 then u else 0:=e
   rw[e',ih K hK (fun z hz=>hs z (by simp[hz])),List.filter_append]
   by_cases hc:s.1<=x/\x<s.2
   ·rw[if_pos hc];have:([s].filter fun s=>decide (s.1<=x) && decide (x<s.2))=[s]:=by simp[hc.1,hc.2]
    rw[this];simp only[List.length_append,List.length_cons,List.length_nil];rw[show ((((K.filter fun s=>decide (s.1<=x) && decide (x<s.2)).length+(0+1):Nat)):Int)=((K.filter fun s=>decide (s.1<=x) && decide (x<s.2)).length:Int)+1 from by omega,Int.mul_add];omega
   ·rw[if_neg hc];have:([s].filter fun s=>decide (s.1<=x) && decide (x<s.2))=[]:=by simp;omega
    rw[this];simp
 exact key L.length L rfl hL
structure TH(w:World)(tb:Nat)(name:ByteArray)(a0c:Int)(A:List Bool->Int)(T:Avl.S)(ul us:Option Addr)(Fl Fs:List Nat):Prop where
 c0:w.cell? ⟨tb,0,none⟩=some (.string name)
 c1:w.cell? ⟨tb,1,none⟩=some (.int .i64 a0c)
 c2:w.cell? ⟨tb,2,none⟩=some (.pointer ul)
 c3:w.cell? ⟨tb,3,none⟩=some (.pointer us)
 fz:∀ o,w.frozen? ⟨tb,o,none⟩=false
 lv:a2d w (b1M A) (.pointer ul) Fl
 sp:a2p w T (.pointer us) Fs
 nl:tb ∉ Fl
 ns:tb ∉ Fs
 dj:∀ k∈Fl,k ∉ Fs
theorem TH.lt{a0c:Int}{T:Avl.S}(h:TH w tb name a0c A T ul us Fl Fs):∀ k∈tb :: (Fl++Fs),k<w.heap.size:=by
 intro k hk;rcases List.mem_cons.1 hk with rfl|hk
 ·exact World.block_lt_of_cell? _ _ h.c0
 ·rcases List.mem_append.1 hk with hk|hk
  ·exact h.lv.lt k hk
  ·exact h.sp.lt k hk
theorem TH.off{a0c:Int}{T:Avl.S}(h:TH w tb name a0c A T ul us Fl Fs)(k:Off G w w')(hG:∀ x∈tb :: (Fl++Fs),x ∉ G):TH w' tb name a0c A T ul us Fl Fs:=by
 have hb:=hG tb (by simp);exact⟨k.cell hb h.c0,k.cell hb h.c1,k.cell hb h.c2,k.cell hb h.c3,fun o=>(k.frozen hb (h.lt tb (by simp))).trans (h.fz o),h.lv.off k (fun x hx=>hG x (by simp[hx])),h.sp.off k (fun x hx=>hG x (by simp[hx])),h.nl,h.ns,h.dj⟩
theorem TH.same{a0c:Int}{T:Avl.S}(h:TH w tb name a0c A T ul us Fl Fs)(k:Off [] w w'):TH w' tb name a0c A T ul us Fl Fs:=h.off k (by simp)
theorem TH.added{a0c:Int}{T:Avl.S}(h:TH w tb name a0c A T ul us Fl Fs)(k:a6p w tb 2 Fl (b1M A') w'):∃ ul' Fl',TH w' tb name a0c A' T ul' us Fl' Fs/\(∀ k∈Fl',k∈Fl\/w.heap.size<=k)/\Off (tb :: Fl) w w':=by
 obtain⟨u',F',k1,k2,k3,k4,k5,k6⟩:=k;have hlt:=h.lt;refine⟨u',F',⟨(k5 0 (by omega)).trans h.c0,(k5 1 (by omega)).trans h.c1,k1,(k5 3 (by omega)).trans h.c3,fun o=>(k6 o).trans (h.fz o),k2,h.sp.off k4 (fun x hx=>?_),fun e=>?_,h.ns,fun x hx hy=>?_⟩,k3,k4⟩
 ·simp only[List.mem_cons,not_or];exact⟨fun e=>h.ns (e ▸ hx),fun e=>h.dj x e hx⟩
 ·rcases k3 tb e with h1|h1
  ·exact h.nl h1
  ·have:=hlt tb (by simp);omega
 ·rcases k3 x hx with h1|h1
  ·exact h.dj x h1 hy
  ·have:=hlt x (by simp[hy]);omega
theorem TH.treed{a0c:Int}{T T':Avl.S}(h:TH w tb name a0c A T ul us Fl Fs)(k:a3i w tb 3 Fs T' w'):∃ us' Fs',TH w' tb name a0c A T' ul us' Fl Fs'/\(∀ k∈Fs',k∈Fs\/w.heap.size<=k)/\Off (tb :: Fs) w w':=by
 obtain⟨u',F',k1,k2,k3,k4,k5,k6⟩:=k;have hlt:=h.lt;refine⟨u',F',⟨(k5 0 (by omega)).trans h.c0,(k5 1 (by omega)).trans h.c1,(k5 2 (by omega)).trans h.c2,k1,fun o=>(k6 o).trans (h.fz o),h.lv.off k4 (fun x hx=>?_),k2,h.nl,fun e=>?_,fun x hx hy=>?_⟩,k3,k4⟩
 ·simp only[List.mem_cons,not_or];exact⟨fun e=>h.nl (e ▸ hx),fun e=>h.dj x hx e⟩
 ·rcases k3 tb e with h1|h1
  ·exact h.ns h1
  ·have:=hlt tb (by simp);omega
 ·rcases k3 x hy with h1|h1
  ·exact h.dj x hx h1
  ·have:=hlt x (by simp[hx]);omega
def SL(w:World)(B:Nat)(L:List (Int × Int)):Prop:=∀ (i:Nat)(h:i<L.length),w.cell? ⟨B,i*2,none⟩=some (.int .i64 L[i].1)/\w.cell? ⟨B,i*2+1,none⟩=some (.int .i64 L[i].2)
theorem SL.off(h:SL w B L)(k:Off G w w')(hB:B ∉ G):SL w' B L:=fun i hi=>⟨k.cell hB (h i hi).1,k.cell hB (h i hi).2⟩
def c1P(L:List (Int × Int)):Prop:=∀ s∈L,0<=s.1/\s.1<s.2/\s.2<=1048320
theorem c5G{x:Int}(h:∀ p,0<=A p/\A p<=500000)(h2:∀ p,0<=a1z A L x p)(hx1:-9<=x)(hx2:x<=9)(hL:L.length<=100)(k:Nat):∀ p,0<=a1z A (L.take k) x p/\a1z A (L.take k) x p<=1000000:=by
 intro p;have a1:=h p;have a2:=h2 p;have e:cnt L p=cnt (L.take k) p+cnt (L.drop k) p:=by rw[<- b1b,List.take_append_drop]
 have b1:=b3P (L.take k) p;have b2:=b3P (L.drop k) p;have b3:((L.take k).length:Int)<=100:=by have:=List.length_take_le' k L;omega
 unfold a1z at a2 ⊢;rw[e,Int.mul_add] at a2;constructor
 ·by_cases hx:0<=x
  ·have:=Int.mul_nonneg hx b1.1;omega
  ·have:x*cnt (L.drop k) p<=0:=Int.mul_nonpos_of_nonpos_of_nonneg (by omega) b2.1;omega
 ·by_cases hx:0<=x
  ·have:x*cnt (L.take k) p<=9*100:=Int.mul_le_mul hx2 (by omega) b1.1 (by omega);omega
  ·have:x*cnt (L.take k) p<=0:=Int.mul_nonpos_of_nonpos_of_nonneg (by omega) b1.1;omega
structure b1l(w wx:World)(tb B:Nat)(name:ByteArray)(a0c:Int)(A:List Bool->Int)(T:Avl.S)(us:Option Addr)(Fl Fs:List Nat)(L:List (Int × Int)):Prop where
 th:∃ (ul:Option Addr) (Fl':List Nat),TH wx tb name a0c A T ul us Fl' Fs/\∀ k∈Fl',k∈Fl\/w.heap.size<=k
 off:Off (tb :: Fl) w wx
 sl:SL wx B L
 ok:c1P L
 nb:B ∉ tb :: Fl
 lt:B<w.heap.size
theorem a6p.off{t':Lev.T}(h:a6p w tb o F t' w'):Off (tb :: F) w w':=by
 obtain⟨_,_,_,_,_,h,_⟩:=h;exact h
theorem b1l.step{wr X:World}{a0c:Int}{T:Avl.S}{Fl':List Nat}(h:b1l w wr tb B name a0c A T us Fl Fs L)(k0:Off [] wr X)(hT:TH X tb name a0c A T ul us Fl' Fs)(hs:∀ k∈Fl',k∈Fl\/w.heap.size<=k)(k1:a6p X tb 2 Fl' (b1M A') w4):b1l w w4 tb B name a0c A' T us Fl Fs L:=by
 obtain⟨ul2,Fl2,t1,t2,t3⟩:=hT.added k1;have z1:=h.off.size;have z2:=k0.size
 have hB:B ∉ tb :: Fl':=by
  intro e;rcases List.mem_cons.1 e with e|e
  ·exact h.nb (by simp[e])
  ·rcases hs B e with e|e
   ·exact h.nb (by simp[e])
   ·have:=h.lt;omega
 refine⟨⟨ul2,Fl2,t1,fun k hk=>?_⟩,(h.off.trans' k0 (by simp)).trans' t3 (fun k hk=>?_),(h.sl.off k0 (by simp)).off t3 hB,h.ok,h.nb,h.lt⟩
 ·rcases t2 k hk with e|e
  ·exact hs k e
  ·exact .inr (by omega)
 ·rcases List.mem_cons.1 hk with rfl|hk
  ·exact .inl (by simp)
  ·rcases hs k hk with e|e
   ·exact .inl (by simp[e])
   ·exact .inr e
theorem b9q(tb:Nat)(name:ByteArray)(a0c:Int)(A:List Bool->Int)(T:Avl.S)(us:Option Addr)(Fs:List Nat)(L:List (Int × Int))(x:Int)(k:Nat)(hk:k<L.length)(hbd:∀ (k:Nat)(p:List Bool),0<=a1z A (L.take k) x p/\a1z A (L.take k) x p<=1000000)(hok:0<=L[k].1/\L[k].1<L[k].2/\L[k].2<=1048320)(hx1:-9<=x)(hx2:x<=9)(ul:Option Addr)(Fl:List Nat):
  ∀ W,TH W tb name a0c (a1z A (L.take k) x) T ul us Fl Fs->Calls Tryz.prog 219 #[.pointer (some ⟨tb,2,none⟩),.agg #[.int .i64 L[k].1,.int .i64 L[k].2],.int .i64 x] W fun e w'=>e=.returned (.tuple #[])/\a6p W tb 2 Fl (b1M (a1z A (L.take (k+1)) x)) w':=by
 intro W h
 have e:a1z A (L.take (k+1)) x=fun p=>a1z A (L.take k) x p+x*Lev.chi 0 1048320 L[k].1 L[k].2 p:=by
  rw[List.take_succ_eq_append_getElem hk,b3Y]
 have e2:Lev.a6q 20 (b1M (a1z A (L.take k) x)) 0 1048320 L[k].1 L[k].2 x=b1M (a1z A (L.take (k+1)) x):=by rw[e];exact c2S _ _ _ _ hok.2.1
 rw[<- e2];exact c5J _ tb 2 ul Fl _ _ x W h.c2 (h.fz 2) h.nl h.lv hok.2.1 (by omega) (by omega) (a9e (hbd k)) (by rw[e2];exact a9e (hbd (k+1)))
theorem c2i(w:World)(tb B cap:Nat)(name:ByteArray)(a0c:Int)(A:List Bool->Int)(T:Avl.S)(ul us:Option Addr)(Fl Fs:List Nat)(L:List (Int × Int))(x:Int)(h:TH w tb name a0c A T ul us Fl Fs)(hs:SL w B L)(hok:c1P L)(hb:B ∉ tb :: Fl)(hB:B<w.heap.size)(hA:∀ p,0<=A p/\A p<=500000)(hA2:∀ p,0<=a1z A L x p)(hx1:-9<=x)(hx2:x<=9)(hL:L.length<=100):
  Calls Tryz.prog 157 #[.pointer (some ⟨tb,0,none⟩),.slice (some ⟨B,0,none⟩) L.length cap,.int .i64 x] w fun e w'=>e=.returned (.tuple #[])/\(∃ ul' Fl',TH w' tb name a0c (a1z A L x) T ul' us Fl' Fs/\∀ k∈Fl',k∈Fl\/w.heap.size<=k)/\Off (tb :: Fl) w w':=by
 have hbd:=a0b (c5G hA hA2 hx1 hx2 hL);have h0:b1l w w tb B name a0c (a1z A (L.take 0) x) T us Fl Fs L:=⟨⟨ul,Fl,by rw[List.take_zero,b7u];exact h,fun k hk=>.inl hk⟩,Off.refl _ _,hs,hok,hb,hB⟩;have H0:=a0b h0;clear h hs hok hb hA hA2 h0 ul
 go_enter Tryz.func157,Tryz.ntmps157
 go_wp2_with fail
 go_loopw [7,10] (fun _ i wx=>∃ k:Nat,k<=L.length/\i=.int .i64 k/\b1l w wx tb B name a0c (a1z A (L.take k) x) T us Fl Fs L) (fun _ i _=>L.length-(intOf i).toNat)
 case atStart=>exact⟨0,Nat.zero_le _,rfl,H0.out⟩
 case round =>
  obtain⟨k,hk,rfl,hA⟩:=hrel
  by_cases hlt:k<L.length
  ·have c:=hA.sl k hlt;have HA:=a0b hA;obtain⟨c1,c2⟩:=c;clear hA;have hi:(k:Int)<(L.length:Int):=by omega
   obtain⟨ul,Fl',hT,hsub⟩:=HA.out.th;have CA:=a0b (b9q tb name a0c A T us Fs L x k hlt hbd.out (HA.out.ok L[k] (zg hlt)) hx1 hx2 ul Fl');have HT:=a0b hT;have HS:=a0b hsub;clear hT hsub
   go_upto_region 3 with fail
   have hX:Off [] wr (wr.alloc (.cells #[.int .i64 L[k].1,.int .i64 L[k].2] 60)):=(Off.refl _ _).alloc _;have x0:(wr.alloc (.cells #[.int .i64 L[k].1,.int .i64 L[k].2] 60)).cell? ⟨wr.heap.size,0,none⟩=some (.int .i64 L[k].1):=by simp
   have x1:(wr.alloc (.cells #[.int .i64 L[k].1,.int .i64 L[k].2] 60)).cell? ⟨wr.heap.size,1,none⟩=some (.int .i64 L[k].2):=by simp
   have HX:=a0b hX;have hnb:wr.heap.size ∉ tb :: Fl':=fun e=>by have:=HT.out.lt wr.heap.size (by simp only[List.mem_cons,List.mem_append] at e ⊢;grind);omega
   have HN:=a0b hnb;clear hX hnb c1 c2;generalize (World.alloc wr (.cells #[.int .i64 L[k].1,.int .i64 L[k].2] 60))=X at x0 x1 HX ⊢;generalize wr.heap.size=bx at x0 x1 HN ⊢
   go_region_held3 (fun w'=>w'.cell? ⟨bx,0,none⟩=some (.int .i64 L[k].1)/\w'.cell? ⟨bx,1,none⟩=some (.int .i64 L[k].2))
    (first
     |exact⟨x0,x1⟩
     |exact⟨m1,m2⟩)
    (first
     |(go_at_call 219;refine (CA.out _ (HT.out.same (HX.out.drew))).mono ?_;rintro e w4 ⟨rfl,k1⟩;have m1:=k1.off.cell (o:=0) HN.out x0;have m2:=k1.off.cell (o:=1) HN.out x1))
   have HK:Hid (b1l w w4 tb B name a0c (a1z A (L.take (k+1)) x) T us Fl Fs L):=HA.out.step (HX.out.drew) (HT.out.same HX.out.drew) HS.out k1;clear HA HT HS CA HX HN m1 m2 x0 x1 k1
   go_wp2_with fail
   go_roundw
   case rel=>exact⟨k+1,by omega,by go_num,HK.out⟩
   case measure=>simp[intOf];omega
  ·have e:L.take k=L:=List.take_of_length_le (by omega);rw[e] at hA;have HA:=a0b hA;clear hA;have hi:¬ (k:Int)<(L.length:Int):=by omega
   go_wp2_with fail
   go_end0
   exact⟨rfl,HA.out.th,HA.out.off⟩
def b4T(A:List Bool->Int)(s:Int × Int):Int:=Lev.a2g (b1M A) 0 1048320 s.1 s.2
def a2V(A:List Bool->Int)(a0c:Int)(L:List (Int × Int)):Bool:=L.all fun s=>decide (b4T A s<=a0c)
theorem b1G{s:Int × Int}(hA:∀ p,0<=A p)(h0:0<=s.1)(h1:s.1<s.2)(h2:s.2<=1048320):(∀ x,s.1<=x->x<s.2->b0i A x<=b4T A s)/\∃ x,s.1<=x/\x<s.2/\b0i A x=b4T A s:=by
 obtain⟨_,k1,x,k2,k3,k4,k5,k6⟩:=Lev.b6E (b1M A) 0 1048320 s.1 s.2 (by omega) h1 (a6L hA) (Lev.a1r.2 (by omega));exact⟨fun x a b=>k1 x (by omega) (by omega) a b,x,k4,k5,k6⟩
theorem b3v(w:World)(tb B cap:Nat)(name:ByteArray)(a0c:Int)(A:List Bool->Int)(T:Avl.S)(ul us:Option Addr)(Fl Fs:List Nat)(L:List (Int × Int))(h:TH w tb name a0c A T ul us Fl Fs)(hs:SL w B L)(hok:c1P L)(hA:∀ p,0<=A p/\A p<=1000000)(hL:L.length<=100):
  Calls Tryz.prog 158 #[.pointer (some ⟨tb,0,none⟩),.slice (some ⟨B,0,none⟩) L.length cap] w fun e w'=>e=.returned (.bool (a2V A a0c L))/\Below w.heap.size w w':=by
 have CM:=a0b (fun (W:World) (k:Below w.heap.size w W) (s:Int × Int) (h1:s.1<s.2)=>b7x (b1M A) tb 2 ul Fl s.1 s.2 W (a0a k h.c2) (h.lv.later k) (a9e hA) (a6L (fun p=>(hA p).1)) h1);have HS:=a0b hs;have HO:=a0b hok;have cu:=h.c1;clear h hs hok hA
 go_enter Tryz.func158,Tryz.ntmps158
 go_wp2_with fail
 go_loopw [6,9] (fun _ i wx=>∃ k:Nat,k<=L.length/\i=.int .i64 k/\a2V A a0c (L.take k)=true/\Below w.heap.size w wx) (fun _ i _=>L.length-(intOf i).toNat)
 case atStart=>exact⟨0,Nat.zero_le _,rfl,by simp[a2V],Below.refl _ _⟩
 case round =>
  obtain⟨k,hk,rfl,hh,hb⟩:=hrel;have HH:=a0b hh;clear hh
  by_cases hlt:k<L.length
  ·have c1:=a0a hb (HS.out k hlt).1;have c2:=a0a hb (HS.out k hlt).2;have cu':=a0a hb cu;have hi:(k:Int)<(L.length:Int):=by omega
   have HB:=a0b hb;clear hb
   have et:a2V A a0c (L.take (k+1))=(a2V A a0c (L.take k) && decide (b4T A L[k]<=a0c)):=by
    unfold a2V;rw[List.take_succ_eq_append_getElem hlt,List.all_append];simp
   have ET:=a0b et;have hok:=HO.out L[k] (zg hlt);clear et
   go_upto_region 4 with fail
   have hX:Below wr.heap.size wr (wr.alloc (.cells #[.int .i64 L[k].1,.int .i64 L[k].2] 60)):=(zr _ _).alloc (zq _) _;have x0:(wr.alloc (.cells #[.int .i64 L[k].1,.int .i64 L[k].2] 60)).cell? ⟨wr.heap.size,0,none⟩=some (.int .i64 L[k].1):=by simp
   have x1:(wr.alloc (.cells #[.int .i64 L[k].1,.int .i64 L[k].2] 60)).cell? ⟨wr.heap.size,1,none⟩=some (.int .i64 L[k].2):=by simp
   have xu:=a0a hX cu';have HX:=a0b (a0j HB.out hX (zq _));clear hX c1 c2 cu';generalize (World.alloc wr (.cells #[.int .i64 L[k].1,.int .i64 L[k].2] 60))=X at x0 x1 xu HX ⊢;generalize wr.heap.size=bx at x0 x1 ⊢;have CC:=a0b (fun W k'=>CM.out W k' L[k] hok.2.1);generalize em:Lev.a2g (b1M A) 0 1048320 L[k].1 L[k].2=m at CC;have EM:Hid (b4T A L[k]=m):=em;clear em
   by_cases hc:m<=a0c
   all_goals
    go_region_held3 (fun w'=>w'.cell? ⟨bx,0,none⟩=some (.int .i64 L[k].1)/\w'.cell? ⟨bx,1,none⟩=some (.int .i64 L[k].2)/\w'.cell? ⟨tb,1,none⟩=some (.int .i64 a0c)/\Below X.heap.size X w')
     (first
      |exact⟨x0,x1,xu,a0q _⟩
      |(go_split_ands;exact⟨a0a hbf (by assumption),a0a hbf (by assumption),a0a hbf (by assumption),a0j (by assumption) hbf (zq _)⟩))
     (first
      |(go_at_call 153;go_split_ands;refine (CC.out _ (a0j HX.out (by assumption) (zq _))).mono ?_;rintro e w4 ⟨rfl,hbf⟩))
    have HF:=a0b (a0j HX.out (by go_split_ands;assumption:Below X.heap.size X w4) (zq _));clear CM CC HX HB x0 x1 xu hbf
    go_wp2_with fail
   ·go_roundw
    case rel=>exact⟨k+1,by omega,by go_num,by rw[ET.out,HH.out,EM.out];simpa using hc,HF.out⟩
    case measure=>simp[intOf];omega
   ·go_ret;refine⟨a2C ?_,HF.out⟩;have:a2V A a0c L=(a2V A a0c (L.take (k+1)) && a2V A a0c (L.drop (k+1))):=by unfold a2V;rw[<- List.all_append,List.take_append_drop]
    rw[this,ET.out,HH.out,EM.out];have hd:decide (m<=a0c)=false:=decide_eq_false (by omega);rw[hd];rfl
  ·have e:L.take k=L:=List.take_of_length_le (by omega);have hi:¬ (k:Int)<(L.length:Int):=by omega
   go_wp2_with fail
   go_ret;exact⟨a2C (by rw[<- e];exact HH.out.symm),hb⟩
structure ENT(w:World)(eb:Nat)(id:Int)(tb:Nat)(a0c:Int)(B cap:Nat)(L:List (Int × Int)):Prop where
 c0:w.cell? ⟨eb,0,none⟩=some (.int .i64 id)
 c1:w.cell? ⟨eb,2,none⟩=some (.pointer (some ⟨tb,0,none⟩))
 c2:w.cell? ⟨eb,3,none⟩=some (.int .i64 a0c)
 c3:w.cell? ⟨eb,4,none⟩=some (.slice (some ⟨B,0,none⟩) L.length cap)
 sl:SL w B L
 lt:B<w.heap.size
theorem ENT.off{a0c:Int}(h:ENT w eb id tb a0c B cap L)(k:Off G w w')(h1:eb ∉ G)(h2:B ∉ G):ENT w' eb id tb a0c B cap L :=
 ⟨k.cell h1 h.c0,k.cell h1 h.c1,k.cell h1 h.c2,k.cell h1 h.c3,h.sl.off k h2,Nat.lt_of_lt_of_le h.lt k.size⟩
structure Now(w wx:World)(tb:Nat)(name:ByteArray)(a0c:Int)(A:List Bool->Int)(T:Avl.S)(F:List Nat):Prop where
 th:∃ (ul us:Option Addr) (Fl Fs:List Nat),TH wx tb name a0c A T ul us Fl Fs/\∀ k∈Fl++Fs,k∈F\/w.heap.size<=k
 off:Off (tb :: F) w wx
theorem Now.later{a0c:Int}{T:Avl.S}(h:Now w wx tb name a0c A T F)(k:Off [] wx wy):Now w wy tb name a0c A T F:=by
 obtain⟨ul,us,Fl,Fs,h1,h2⟩:=h.th;exact⟨⟨ul,us,Fl,Fs,h1.same k,h2⟩,h.off.trans' k (by simp)⟩
theorem Now.addedL{a0c:Int}{T:Avl.S}(h:Now w wx tb name a0c A T F)(h2:∀ k∈Fl++Fs,k∈F\/w.heap.size<=k)(k:∃ ul' Fl',TH wy tb name a0c A' T ul' us Fl' Fs/\∀ k∈Fl',k∈Fl\/wx.heap.size<=k)(ko:Off (tb :: Fl) wx wy):Now w wy tb name a0c A' T F:=by
 obtain⟨ul',Fl',t1,t2⟩:=k;have z:=h.off.size;refine⟨⟨ul',us,Fl',Fs,t1,fun k hk=>?_⟩,h.off.trans' ko (fun k hk=>?_)⟩
 ·rcases List.mem_append.1 hk with hk|hk
  ·rcases t2 k hk with e|e
   ·exact h2 k (by simp[e])
   ·exact .inr (by omega)
  ·exact h2 k (by simp[hk])
 ·rcases List.mem_cons.1 hk with rfl|hk
  ·exact .inl (by simp)
  ·rcases h2 k (by simp[hk]) with e|e
   ·exact .inl (by simp[e])
   ·exact .inr e
theorem Now.treed{a0c:Int}{T T':Avl.S}(h:Now w wx tb name a0c A T F)(h1:TH wx tb name a0c A T ul us Fl Fs)(h2:∀ k∈Fl++Fs,k∈F\/w.heap.size<=k)(k:a3i wx tb 3 Fs T' wy):Now w wy tb name a0c A T' F:=by
 obtain⟨us',Fs',t1,t2,t3⟩:=h1.treed k;have z:=h.off.size;refine⟨⟨ul,us',Fl,Fs',t1,fun k hk=>?_⟩,h.off.trans' t3 (fun k hk=>?_)⟩
 ·rcases List.mem_append.1 hk with hk|hk
  ·exact h2 k (by simp[hk])
  ·rcases t2 k hk with e|e
   ·exact h2 k (by simp[e])
   ·exact .inr (by omega)
 ·rcases List.mem_cons.1 hk with rfl|hk
  ·exact .inl (by simp)
  ·rcases h2 k (by simp[hk]) with e|e
   ·exact .inl (by simp[e])
   ·exact .inr e
def b2s(id:Int)(eb:Nat)(s:Int × Int):Avl.It:=⟨s.1,s.2,id,eb⟩
def a7e(id:Int)(eb:Nat):Avl.S->List (Int × Int)->Avl.S
 |T,[]=>T
 |T,s :: r=>a7e id eb (Avl.put (b2s id eb s) T) r
def a4w(id:Int):Avl.S->List (Int × Int)->Avl.S
 |T,[]=>T
 |T,s :: r=>a4w id (Avl.drop s.1 id T) r
theorem b2S(id:Int)(eb:Nat)(s:Int × Int):∀ (L:List (Int × Int))(T:Avl.S),a7e id eb T (L++[s])=Avl.put (b2s id eb s) (a7e id eb T L)
 |[],T=>rfl
 |t :: L,T=>by simp only[List.cons_append,a7e];exact b2S id eb s L _
theorem b0U(id:Int)(s:Int × Int):∀ (L:List (Int × Int))(T:Avl.S),a4w id T (L++[s])=Avl.drop s.1 id (a4w id T L)
 |[],T=>rfl
 |t :: L,T=>by simp only[List.cons_append,a4w];exact b0U id s L _
def c7m(id:Int)(eb:Nat):List Avl.It->List (Int × Int)->List Avl.It
 |l,[]=>l
 |l,s :: r=>c7m id eb (Avl.ins (b2s id eb s) l) r
theorem b4M(id:Int)(eb:Nat):∀ (L:List (Int × Int))(T:Avl.S),Avl.Ord (Avl.a0w T)->(∀ z∈Avl.a0w T,z.n=id->∀ s∈L,z.f≠s.1)->(L.map (·.1)).Nodup ->
  Avl.Ord (Avl.a0w (a7e id eb T L))/\Avl.a0w (a7e id eb T L)=c7m id eb (Avl.a0w T) L/\(∀ z,z∈Avl.a0w (a7e id eb T L)↔z∈Avl.a0w T\/∃ s∈L,z=b2s id eb s)/\Avl.size (a7e id eb T L)=Avl.size T+L.length
 |[],T,h,_,_=>⟨h,rfl,fun z=>by simp[a7e],by simp[a7e]⟩
 |s :: r,T,h,hn,hd=>by
  have hs:∀ z∈Avl.a0w T,¬ (z.f=(b2s id eb s).f/\z.n=(b2s id eb s).n):=fun z hz e=>hn z hz e.2 s (by simp) e.1
  have e1:=Avl.a9o (b2s id eb s) T h hs;have o1:Avl.Ord (Avl.a0w (Avl.put (b2s id eb s) T)):=by rw[e1];exact Avl.b9T h hs
  simp only[List.map_cons,List.nodup_cons] at hd
  have hn1:∀ z∈Avl.a0w (Avl.put (b2s id eb s) T),z.n=id->∀ t∈r,z.f≠t.1:=by
   intro z hz he t ht;rw[e1,Avl.b1I] at hz;rcases hz with rfl|hz
   ·intro e;exact hd.1 (List.mem_map.2 ⟨t,ht,e.symm⟩)
   ·exact hn z hz he t (by simp[ht])
  obtain⟨k1,k2,k3,k4⟩:=b4M id eb r _ o1 hn1 hd.2;refine⟨k1,by rw[a7e,k2,e1];rfl,fun z=>?_,?_⟩
  ·rw[a7e,k3,e1,Avl.b1I];constructor
   ·rintro ((h|h)|⟨t,ht,h⟩)
    ·exact .inr ⟨s,by simp,h⟩
    ·exact .inl h
    ·exact .inr ⟨t,by simp[ht],h⟩
   ·rintro (h|⟨t,ht,h⟩)
    ·exact .inl (.inr h)
    ·rcases List.mem_cons.1 ht with rfl|ht
     ·exact .inl (.inl h)
     ·exact .inr ⟨t,ht,h⟩
  ·rw[a7e,k4,<- Avl.a1k,<- Avl.a1k,e1,Avl.b0H,List.length_cons];omega
theorem b2d(id:Int):∀ (L:List (Int × Int))(T:Avl.S),Avl.Ord (Avl.a0w T) ->
  Avl.Ord (Avl.a0w (a4w id T L))/\Avl.a0w (a4w id T L)=(Avl.a0w T).filter (fun z=>L.all fun s=>Avl.a8n s.1 id z)/\Avl.size (a4w id T L)<=Avl.size T
 |[],T,h=>⟨h,(List.filter_eq_self.2 (fun _ _=>rfl)).symm,Nat.le_refl _⟩
 |s :: r,T,h=>by
  have e1:=Avl.a7E s.1 id T h;have o1:Avl.Ord (Avl.a0w (Avl.drop s.1 id T)):=by rw[e1];exact Avl.b0C _ h
  obtain⟨k1,k2,k3⟩:=b2d id r _ o1;refine⟨k1,?_,Nat.le_trans k3 (a4W _ _ _)⟩;rw[a4w,k2,e1,List.filter_filter]
  congr 1
  funext z
  simp only[List.all_cons];exact Bool.and_comm _ _
theorem b3Z(A:List Bool->Int)(L:List (Int × Int))(u:Int):a1z (a1z A L u) L (-u)=A:=by
 funext p;unfold a1z;rw[Int.neg_mul];omega
structure c6Q(w:World)(tb eb B cap:Nat)(name:ByteArray)(a0c:Int)(A:List Bool->Int)(T:Avl.S)(F:List Nat)(id u:Int)(L:List (Int × Int)):Prop where
 th:∃ (ul us:Option Addr) (Fl Fs:List Nat),TH w tb name a0c A T ul us Fl Fs/\∀ k∈Fl++Fs,k∈F
 en:ENT w eb id tb u B cap L
 ne:eb ∉ tb :: F
 nb:B ∉ tb :: F
 ok:c1P L
 bd:∀ p,0<=A p/\A p<=400000
 u1:1<=u
 u2:u<=9
 ll:L.length<=100
structure c7E(w wx:World)(tb eb B cap:Nat)(name:ByteArray)(a0c:Int)(A:List Bool->Int)(T:Avl.S)(F:List Nat)(id u:Int)(L:List (Int × Int)):Prop where
 now:Now w wx tb name a0c A T F
 en:ENT wx eb id tb u B cap L
theorem Now.pair{a0c:Int}{T:Avl.S}{u:Int}(h:Now w wx tb name a0c A T F)(he:ENT w eb id tb u B cap L)(h1:eb ∉ tb :: F)(h2:B ∉ tb :: F):c7E w wx tb eb B cap name a0c A T F id u L:=⟨h,he.off h.off h1 h2⟩
theorem c4h{u:Int}(h:∀ p,0<=A p/\A p<=400000)(u1:1<=u)(u2:u<=9)(hl:L.length<=100):∀ p,0<=a1z A L u p/\a1z A L u p<=500000:=by
 intro p;have a:=h p;have b:=b3P L p;have c:0<=u*cnt L p:=Int.mul_nonneg (by omega) b.1;have d:u*cnt L p<=9*100:=Int.mul_le_mul u2 (by omega) b.1 (by omega);unfold a1z;omega
theorem b2o(w:World)(tb eb B cap:Nat)(name:ByteArray)(a0c:Int)(A A1:List Bool->Int)(T:Avl.S)(F:List Nat)(id u x:Int)(L:List (Int × Int))(he:ENT w eb id tb u B cap L)(hne:eb ∉ tb :: F)(hnb:B ∉ tb :: F)(hok:c1P L)(hA:∀ p,0<=A p/\A p<=500000)(hA2:∀ p,0<=a1z A L x p)(hx1:-9<=x)(hx2:x<=9)(hL:L.length<=100)(e1:a1z A L x=A1)(wx:World)(hn:Now w wx tb name a0c A T F):
  Calls Tryz.prog 157 #[.pointer (some ⟨tb,0,none⟩),.slice (some ⟨B,0,none⟩) L.length cap,.int .i64 x] wx fun e w'=>e=.returned (.tuple #[])/\Now w w' tb name a0c A1 T F:=by
 obtain⟨ul,us,Fl,Fs,h1,h2⟩:=hn.th;have hx:=hn.pair he hne hnb
 have hb:B ∉ tb :: Fl:=by
  intro e;rcases List.mem_cons.1 e with e|e
  ·exact hnb (by simp[e])
  ·rcases h2 B (by simp[e]) with e|e
   ·exact hnb (by simp[e])
   ·have:=he.lt;omega
 refine (c2i wx tb B cap name a0c A T ul us Fl Fs L x h1 hx.en.sl hok hb hx.en.lt hA hA2 hx1 hx2 hL).mono ?_;rintro e w' ⟨rfl,k1,k2⟩;rw[e1] at k1;exact⟨rfl,hn.addedL h2 k1 k2⟩
theorem c4y(w:World)(tb eb B cap:Nat)(name:ByteArray)(a0c:Int)(A:List Bool->Int)(T:Avl.S)(F:List Nat)(id u:Int)(L:List (Int × Int))(h:c6Q w tb eb B cap name a0c A T F id u L)(hno:a2V (a1z A L u) a0c L=false):
  Calls Tryz.prog 104 #[.pointer (some ⟨tb,0,none⟩),.pointer (some ⟨eb,0,none⟩)] w fun e w'=>e=.returned (.bool false)/\Now w w' tb name a0c A T F:=by
 have hcap:=c4h h.bd h.u1 h.u2 h.ll;have C1:=a0b (b2o w tb eb B cap name a0c A (a1z A L u) T F id u u L h.en h.ne h.nb h.ok (fun p=>⟨(h.bd p).1,by have:=(h.bd p).2;omega⟩) (fun p=>(hcap p).1) (by have:=h.u1;omega) h.u2 h.ll rfl);have C2:=a0b (b2o w tb eb B cap name a0c (a1z A L u) A T F id u (-u) L h.en h.ne h.nb h.ok hcap (fun p=>by rw[b3Z];exact (h.bd p).1) (by have:=h.u2;omega) (by have:=h.u1;omega) h.ll (b3Z A L u))
 have CH:Hid (∀ wx,Now w wx tb name a0c (a1z A L u) T F->Calls Tryz.prog 158 #[.pointer (some ⟨tb,0,none⟩),.slice (some ⟨B,0,none⟩) L.length cap] wx fun e w'=>e=.returned (.bool false)/\Now w w' tb name a0c (a1z A L u) T F):=by
  intro wx hn;obtain⟨ul,us,Fl,Fs,h1,h2⟩:=hn.th;refine (b3v wx tb B cap name a0c _ T ul us Fl Fs L h1 (hn.pair h.en h.ne h.nb).en.sl h.ok (fun p=>⟨(hcap p).1,by have:=(hcap p).2;omega⟩) h.ll).mono ?_;rintro e w' ⟨rfl,hb⟩;rw[hno];exact⟨rfl,hn.later (Off.of_below hb)⟩
 have P:Hid (∀ wx A',Now w wx tb name a0c A' T F->wx.cell? ⟨eb,4,none⟩=some (.slice (some ⟨B,0,none⟩) L.length cap)/\wx.cell? ⟨eb,3,none⟩=some (.int .i64 u)) :=
  fun wx A' hn=>⟨(hn.pair h.en h.ne h.nb).en.c3,(hn.pair h.en h.ne h.nb).en.c2⟩
 have hn0:Now w w.drew tb name a0c A T F:=by
  obtain⟨ul,us,Fl,Fs,h1,h2⟩:=h.th;exact⟨⟨ul,us,Fl,Fs,h1.same (Off.refl _ _).drew,fun k hk=>.inl (h2 k hk)⟩,(Off.refl _ _).drew⟩
 have N0:=a0b hn0;have c3:=h.en.c3;have c2:=h.en.c2;have u1:=h.u1;have u2:=h.u2;have hneg:IntKind.i64.wrap (-u)=-u:=a0i (by omega) (by omega);clear h hcap hno hn0
 go_enter Tryz.func104,Tryz.ntmps104
 go_upto_region 1 with fail
 go_region_held3 (fun w'=>w'.cell? ⟨eb,4,none⟩=some (.slice (some ⟨B,0,none⟩) L.length cap)/\w'.cell? ⟨eb,3,none⟩=some (.int .i64 u))
  (first
   |exact⟨c3,c2⟩
   |exact P.out _ _ k1)
  (first
   |(go_at_call 157;refine (C1.out _ N0.out).mono ?_;rintro e w4 ⟨rfl,k1⟩))
 obtain⟨d3,d2⟩:=P.out _ _ k1;have K1:=a0b k1;clear k1 C1 N0 c3 c2
 go_wp2_with fail
 refine (CH.out _ K1.out).mono ?_;rintro e w5 ⟨rfl,k2⟩;obtain⟨f3,f2⟩:=P.out _ _ k2;have K2:=a0b (k2.later (Off.refl _ _).drew);have K3:=a0b k2;clear k2 CH d3 d2
 go_upto_region 3 with fail
 go_region_held3 (fun w'=>w'.cell? ⟨eb,4,none⟩=some (.slice (some ⟨B,0,none⟩) L.length cap)/\w'.cell? ⟨eb,3,none⟩=some (.int .i64 u))
  (first
   |exact⟨f3,f2⟩
   |exact P.out _ _ k1)
  (first
   |(go_at_call 157;refine (C2.out _ K2.out).mono ?_;rintro e w6 ⟨rfl,k1⟩))
 have K4:=a0b k1;clear k1 C2 K1 K2 K3 f3 f2 P
 go_wp2_with fail
 go_ret;exact⟨rfl,K4.out⟩
structure c3L(T:Avl.S)(id:Int)(L:List (Int × Int)):Prop where
 od:Avl.Ord (Avl.a0w T)
 sz:Avl.size T<=9000
 no:∀ z∈Avl.a0w T,z.n=id->∀ s∈L,z.f≠s.1
 nd:(L.map (·.1)).Nodup
theorem a3i.off{t':Avl.S}(h:a3i w tb o F t' w'):Off (tb :: F) w w':=by
 obtain⟨_,_,_,_,_,h,_⟩:=h;exact h
theorem c2A(tb eb:Nat)(name:ByteArray)(a0c:Int)(A:List Bool->Int)(T:Avl.S)(id:Int)(L:List (Int × Int))(hr:c3L T id L)(hl:L.length<=100)(k:Nat)(hk:k<L.length)(ul us:Option Addr)(Fl Fs:List Nat)(wx:World)(h1:TH wx tb name a0c A (a7e id eb T (L.take k)) ul us Fl Fs):
  Calls Tryz.prog 159 #[.pointer (some ⟨tb,3,none⟩),.int .i64 L[k].1,.int .i64 L[k].2,.int .i64 id,.pointer (some ⟨eb,0,none⟩)] wx fun e w'=>e=.returned (.tuple #[])/\a3i wx tb 3 Fs (a7e id eb T (L.take (k+1))) w':=by
 have hnd:((L.take k).map (·.1)).Nodup:=List.Sublist.nodup ((List.take_sublist k L).map _) hr.nd;obtain⟨p1,_,p3,p4⟩:=b4M id eb (L.take k) T hr.od (fun z hz he s hs=>hr.no z hz he s (List.mem_of_mem_take hs)) hnd;have hlen:=List.length_take_le k L;have hlen2:(L.take k).length<=100:=by omega
 have e:a7e id eb T (L.take (k+1))=Avl.put (b2s id eb L[k]) (a7e id eb T (L.take k)):=by rw[List.take_succ_eq_append_getElem hk,b2S]
 have hz:=hr.sz
 have hnot:∀ z∈Avl.a0w (a7e id eb T (L.take k)),¬ (z.f=(b2s id eb L[k]).f/\z.n=(b2s id eb L[k]).n):=by
  intro z hz ⟨e1,e2⟩;rcases (p3 z).1 hz with hz|⟨s,hs,rfl⟩
  ·exact hr.no z hz e2 L[k] (zg hk) e1
  ·have hd:=hr.nd
   have hsplit:(L.take (k+1)).map (·.1)=(L.take k).map (·.1)++[L[k].1]:=by rw[List.take_succ_eq_append_getElem hk,List.map_append];rfl
   have hd':((L.take (k+1)).map (·.1)).Nodup:=List.Sublist.nodup ((List.take_sublist (k+1) L).map _) hr.nd;rw[hsplit,List.nodup_append] at hd';exact hd'.2.2 s.1 (List.mem_map.2 ⟨s,hs,rfl⟩) L[k].1 (by simp) e1
 refine (c5H (a7e id eb T (L.take k)) tb 3 us Fs (b2s id eb L[k]) wx h1.c3 (h1.fz 3) h1.ns h1.sp (by omega) hnot).mono ?_;rintro e' w' ⟨rfl,k1⟩;rw[e];exact⟨rfl,k1⟩
theorem c0X(tb:Nat)(name:ByteArray)(a0c:Int)(A:List Bool->Int)(T:Avl.S)(id:Int)(L:List (Int × Int))(ho:Avl.Ord (Avl.a0w T))(hz:Avl.size T<=9000)(k:Nat)(hk:k<L.length)(ul us:Option Addr)(Fl Fs:List Nat)(wx:World)(h1:TH wx tb name a0c A (a4w id T (L.take k)) ul us Fl Fs):
  Calls Tryz.prog 253 #[.pointer (some ⟨tb,3,none⟩),.int .i64 L[k].1,.int .i64 id] wx fun e w'=>e=.returned (.tuple #[])/\a3i wx tb 3 Fs (a4w id T (L.take (k+1))) w':=by
 obtain⟨_,_,p3⟩:=b2d id (L.take k) T ho;have e:a4w id T (L.take (k+1))=Avl.drop L[k].1 id (a4w id T (L.take k)):=by rw[List.take_succ_eq_append_getElem hk,b0U]
 refine (c3N (a4w id T (L.take k)) tb 3 us Fs L[k].1 id wx h1.c3 (h1.fz 3) h1.ns h1.sp (by omega)).mono ?_;rintro e' w' ⟨rfl,k1⟩;rw[e];exact⟨rfl,k1⟩
theorem c2f(w:World)(tb eb B cap:Nat)(name:ByteArray)(a0c:Int)(A:List Bool->Int)(T:Avl.S)(F:List Nat)(id u:Int)(L:List (Int × Int))(h:c6Q w tb eb B cap name a0c A T F id u L)(hr:c3L T id L)(hyes:a2V (a1z A L u) a0c L=true):
  Calls Tryz.prog 104 #[.pointer (some ⟨tb,0,none⟩),.pointer (some ⟨eb,0,none⟩)] w fun e w'=>e=.returned (.bool true)/\Now w w' tb name a0c (a1z A L u) (a7e id eb T L) F:=by
 have hcap:=c4h h.bd h.u1 h.u2 h.ll;have C1:=a0b (b2o w tb eb B cap name a0c A (a1z A L u) T F id u u L h.en h.ne h.nb h.ok (fun p=>⟨(h.bd p).1,by have:=(h.bd p).2;omega⟩) (fun p=>(hcap p).1) (by have:=h.u1;omega) h.u2 h.ll rfl)
 have CH:Hid (∀ wx,Now w wx tb name a0c (a1z A L u) T F->Calls Tryz.prog 158 #[.pointer (some ⟨tb,0,none⟩),.slice (some ⟨B,0,none⟩) L.length cap] wx fun e w'=>e=.returned (.bool true)/\Now w w' tb name a0c (a1z A L u) T F):=by
  intro wx hn;obtain⟨ul,us,Fl,Fs,h1,h2⟩:=hn.th;refine (b3v wx tb B cap name a0c _ T ul us Fl Fs L h1 (hn.pair h.en h.ne h.nb).en.sl h.ok (fun p=>⟨(hcap p).1,by have:=(hcap p).2;omega⟩) h.ll).mono ?_;rintro e w' ⟨rfl,hb⟩;rw[hyes];exact⟨rfl,hn.later (Off.of_below hb)⟩
 have P:Hid (∀ wx A' T',Now w wx tb name a0c A' T' F->ENT wx eb id tb u B cap L):=fun wx A' T' hn=>(hn.pair h.en h.ne h.nb).en
 have PC:Hid (∀ wx A' T',Now w wx tb name a0c A' T' F->wx.cell? ⟨eb,4,none⟩=some (.slice (some ⟨B,0,none⟩) L.length cap)/\wx.cell? ⟨eb,3,none⟩=some (.int .i64 u)):=fun wx A' T' hn=>⟨(P.out wx A' T' hn).c3,(P.out wx A' T' hn).c2⟩
 have hn0:Now w w.drew tb name a0c A T F:=by
  obtain⟨ul,us,Fl,Fs,h1,h2⟩:=h.th;exact⟨⟨ul,us,Fl,Fs,h1.same (Off.refl _ _).drew,fun k hk=>.inl (h2 k hk)⟩,(Off.refl _ _).drew⟩
 have N0:=a0b hn0;have CP:=a0b (fun k hk ul us Fl Fs wx hn=>c2A tb eb name a0c (a1z A L u) T id L hr h.ll k hk ul us Fl Fs wx hn);have c3:=h.en.c3;have c2:=h.en.c2;have ll:=h.ll;have OUT:=a0b (And.intro h.ne h.nb);have EBLT:Hid (eb<w.heap.size):=World.block_lt_of_cell? _ _ h.en.c0;clear h hcap hyes hn0 hr;generalize a1z A L u=A1 at *
 go_enter Tryz.func104,Tryz.ntmps104
 go_upto_region 1 with fail
 go_region_held3 (fun w'=>w'.cell? ⟨eb,4,none⟩=some (.slice (some ⟨B,0,none⟩) L.length cap)/\w'.cell? ⟨eb,3,none⟩=some (.int .i64 u))
  (first
   |exact⟨c3,c2⟩
   |exact PC.out _ _ _ k1)
  (first
   |(go_at_call 157;refine (C1.out _ N0.out).mono ?_;rintro e w4 ⟨rfl,k1⟩))
 obtain⟨d3,d2⟩:=PC.out _ _ _ k1;have K1:=a0b k1;clear k1 C1 N0 c3 c2
 go_wp2_with fail
 refine (CH.out _ K1.out).mono ?_;rintro e w5 ⟨rfl,k2⟩;obtain⟨f3,f2⟩:=PC.out _ _ _ k2;have K3:=a0b k2;clear k2 CH d3 d2 K1
 go_wp2_with fail
 go_loopw [6,40] (fun _ i wx=>∃ k:Nat,k<=L.length/\i=.int .i64 k/\Now w wx tb name a0c A1 (a7e id eb T (L.take k)) F) (fun _ i _=>L.length-(intOf i).toNat)
 case atStart=>exact⟨0,Nat.zero_le _,rfl,K3.out⟩
 case round =>
  obtain⟨k,hk,rfl,hN⟩:=hrel;clear f3 f2
  by_cases hlt:k<L.length
  ·have he:=P.out _ _ _ hN;have c1:=(he.sl k hlt).1;have c2:=(he.sl k hlt).2;have c0:=he.c0;have hi:(k:Int)<(L.length:Int):=by omega
   obtain⟨ul,us,Fl,Fs,h1,h2⟩:=hN.th;have HN:=a0b hN;have H1:=a0b h1;have H2:=a0b h2;clear he hN h1 h2
   go_upto_region 8 with fail
   have hX:Off [] wr (wr.alloc (.cells #[.int .i64 L[k].1,.int .i64 L[k].2] 60)):=(Off.refl _ _).alloc _;have x0:(wr.alloc (.cells #[.int .i64 L[k].1,.int .i64 L[k].2] 60)).cell? ⟨wr.heap.size,0,none⟩=some (.int .i64 L[k].1):=by simp
   have x1:(wr.alloc (.cells #[.int .i64 L[k].1,.int .i64 L[k].2] 60)).cell? ⟨wr.heap.size,1,none⟩=some (.int .i64 L[k].2):=by simp
   have x2:=hX.cell (by simp) c0;have NX:=a0b (HN.out.later hX.drew);have TX:=a0b (H1.out.same hX.drew);have PX:=a0b (CP.out k hlt _ _ _ _ _ TX.out);have hnb:wr.heap.size ∉ tb :: Fs:=fun e=>by have:=H1.out.lt wr.heap.size (by simp only[List.mem_cons,List.mem_append] at e ⊢;grind);omega
   have HNB:=a0b hnb
   have hne:eb ∉ tb :: Fs:=by
    intro e;rcases List.mem_cons.1 e with e|e
    ·exact OUT.out.1 (by simp[e])
    ·rcases H2.out eb (by simp[e]) with e|e
     ·exact OUT.out.1 (by simp[e])
     ·have:=EBLT.out;omega
   have HNE:=a0b hne;clear hX c0 c1 c2 hnb hne HN;generalize (World.alloc wr (.cells #[.int .i64 L[k].1,.int .i64 L[k].2] 60))=X at x0 x1 x2 NX TX PX ⊢;generalize wr.heap.size=bx at x0 x1 HNB ⊢
   go_region_held3 (fun w'=>w'.cell? ⟨bx,0,none⟩=some (.int .i64 L[k].1)/\w'.cell? ⟨bx,1,none⟩=some (.int .i64 L[k].2)/\w'.cell? ⟨eb,0,none⟩=some (.int .i64 id))
    (first
     |exact⟨x0,x1,x2⟩
     |exact⟨k1.off.cell HNB.out x0,k1.off.cell HNB.out x1,k1.off.cell HNE.out x2⟩)
    (first
     |(go_at_call 159;refine PX.out.mono ?_;rintro e w6 ⟨rfl,k1⟩))
   have HK:=a0b (NX.out.treed TX.out H2.out k1);clear k1 NX TX PX H1 H2 HNB HNE CP PC P x0 x1 x2
   go_wp2_with fail
   go_roundw
   case rel=>exact⟨k+1,by omega,by go_num,HK.out⟩
   case measure=>simp[intOf];omega
  ·have e:L.take k=L:=List.take_of_length_le (by omega);rw[e] at hN;have HN:=a0b hN;have hi:¬ (k:Int)<(L.length:Int):=by omega
   clear hN
   go_wp2_with fail
   go_ret;exact⟨rfl,HN.out⟩
theorem b4K(w:World)(tb eb B cap:Nat)(name:ByteArray)(a0c:Int)(A:List Bool->Int)(T:Avl.S)(F:List Nat)(id u:Int)(L:List (Int × Int))(h:c6Q w tb eb B cap name a0c A T F id u L)(ho:Avl.Ord (Avl.a0w T))(hz:Avl.size T<=9000)(hA:∀ p,0<=a1z A L (-u) p):
  Calls Tryz.prog 205 #[.pointer (some ⟨tb,0,none⟩),.pointer (some ⟨eb,0,none⟩)] w fun e w'=>e=.returned (.tuple #[])/\Now w w' tb name a0c (a1z A L (-u)) (a4w id T L) F:=by
 have C1:=a0b (b2o w tb eb B cap name a0c A (a1z A L (-u)) T F id u (-u) L h.en h.ne h.nb h.ok (fun p=>⟨(h.bd p).1,by have:=(h.bd p).2;omega⟩) hA (by have:=h.u2;omega) (by have:=h.u1;omega) h.ll rfl);have P:Hid (∀ wx A' T',Now w wx tb name a0c A' T' F->ENT wx eb id tb u B cap L):=fun wx A' T' hn=>(hn.pair h.en h.ne h.nb).en
 have PC:Hid (∀ wx A' T',Now w wx tb name a0c A' T' F->wx.cell? ⟨eb,4,none⟩=some (.slice (some ⟨B,0,none⟩) L.length cap)/\wx.cell? ⟨eb,3,none⟩=some (.int .i64 u)):=fun wx A' T' hn=>⟨(P.out wx A' T' hn).c3,(P.out wx A' T' hn).c2⟩
 have hn0:Now w w.drew tb name a0c A T F:=by
  obtain⟨ul,us,Fl,Fs,h1,h2⟩:=h.th;exact⟨⟨ul,us,Fl,Fs,h1.same (Off.refl _ _).drew,fun k hk=>.inl (h2 k hk)⟩,(Off.refl _ _).drew⟩
 have N0:=a0b hn0;have CP:=a0b (fun k hk ul us Fl Fs wx hn=>c0X tb name a0c (a1z A L (-u)) T id L ho hz k hk ul us Fl Fs wx hn);have c3:=h.en.c3;have c2:=h.en.c2;have ll:=h.ll;have u1:=h.u1;have u2:=h.u2;have hneg:IntKind.i64.wrap (-u)=-u:=a0i (by omega) (by omega);have OUT:=a0b (And.intro h.ne h.nb);have EBLT:Hid (eb<w.heap.size):=World.block_lt_of_cell? _ _ h.en.c0;clear h hn0 ho hz hA;generalize a1z A L (-u)=A1 at *
 go_enter Tryz.func205,Tryz.ntmps205
 go_upto_region 0 with fail
 go_region_held3 (fun w'=>w'.cell? ⟨eb,4,none⟩=some (.slice (some ⟨B,0,none⟩) L.length cap)/\w'.cell? ⟨eb,3,none⟩=some (.int .i64 u))
  (first
   |exact⟨c3,c2⟩
   |exact PC.out _ _ _ k1)
  (first
   |(go_at_call 157;refine (C1.out _ N0.out).mono ?_;rintro e w4 ⟨rfl,k1⟩))
 obtain⟨f3,f2⟩:=PC.out _ _ _ k1;have K3:=a0b k1;clear k1 C1 N0 c3 c2
 go_wp2_with fail
 go_loopw [5,22] (fun _ i wx=>∃ k:Nat,k<=L.length/\i=.int .i64 k/\Now w wx tb name a0c A1 (a4w id T (L.take k)) F) (fun _ i _=>L.length-(intOf i).toNat)
 case atStart=>exact⟨0,Nat.zero_le _,rfl,K3.out⟩
 case round =>
  obtain⟨k,hk,rfl,hN⟩:=hrel;clear f3 f2
  by_cases hlt:k<L.length
  ·have he:=P.out _ _ _ hN;have c1:=(he.sl k hlt).1;have c2:=(he.sl k hlt).2;have c0:=he.c0;have hi:(k:Int)<(L.length:Int):=by omega
   obtain⟨ul,us,Fl,Fs,h1,h2⟩:=hN.th;have HN:=a0b hN;have H1:=a0b h1;have H2:=a0b h2;clear he hN h1 h2
   go_upto_region 4 with fail
   have hX:Off [] wr (wr.alloc (.cells #[.int .i64 L[k].1,.int .i64 L[k].2] 60)):=(Off.refl _ _).alloc _;have x0:(wr.alloc (.cells #[.int .i64 L[k].1,.int .i64 L[k].2] 60)).cell? ⟨wr.heap.size,0,none⟩=some (.int .i64 L[k].1):=by simp
   have x1:(wr.alloc (.cells #[.int .i64 L[k].1,.int .i64 L[k].2] 60)).cell? ⟨wr.heap.size,1,none⟩=some (.int .i64 L[k].2):=by simp
   have x2:=hX.cell (by simp) c0;have NX:=a0b (HN.out.later hX.drew);have TX:=a0b (H1.out.same hX.drew);have PX:=a0b (CP.out k hlt _ _ _ _ _ TX.out);have hnb:wr.heap.size ∉ tb :: Fs:=fun e=>by have:=H1.out.lt wr.heap.size (by simp only[List.mem_cons,List.mem_append] at e ⊢;grind);omega
   have HNB:=a0b hnb
   have hne:eb ∉ tb :: Fs:=by
    intro e;rcases List.mem_cons.1 e with e|e
    ·exact OUT.out.1 (by simp[e])
    ·rcases H2.out eb (by simp[e]) with e|e
     ·exact OUT.out.1 (by simp[e])
     ·have:=EBLT.out;omega
   have HNE:=a0b hne;clear hX c0 c1 c2 hnb hne HN;generalize (World.alloc wr (.cells #[.int .i64 L[k].1,.int .i64 L[k].2] 60))=X at x0 x1 x2 NX TX PX ⊢;generalize wr.heap.size=bx at x0 x1 HNB ⊢
   go_region_held3 (fun w'=>w'.cell? ⟨bx,0,none⟩=some (.int .i64 L[k].1)/\w'.cell? ⟨bx,1,none⟩=some (.int .i64 L[k].2)/\w'.cell? ⟨eb,0,none⟩=some (.int .i64 id))
    (first
     |exact⟨x0,x1,x2⟩
     |exact⟨k1.off.cell HNB.out x0,k1.off.cell HNB.out x1,k1.off.cell HNE.out x2⟩)
    (first
     |(go_at_call 253;refine PX.out.mono ?_;rintro e w6 ⟨rfl,k1⟩))
   have HK:=a0b (NX.out.treed TX.out H2.out k1);clear k1 NX TX PX H1 H2 HNB HNE CP PC P x0 x1 x2
   go_wp2_with fail
   go_roundw
   case rel=>exact⟨k+1,by omega,by go_num,HK.out⟩
   case measure=>simp[intOf];omega
  ·have e:L.take k=L:=List.take_of_length_le (by omega);rw[e] at hN;have HN:=a0b hN;have hi:¬ (k:Int)<(L.length:Int):=by omega
   clear hN
   go_wp2_with fail
   go_end0
   exact⟨rfl,HN.out⟩
namespace Hp
structure Hi where
 t:Int
 n:Int
 v:Nat
def ahead(x y:Hi):Prop:=x.t<y.t\/(x.t=y.t/\x.n<y.n)
instance (x y:Hi):Decidable (ahead x y):=by unfold ahead;infer_instance
theorem a5b{x y z:Hi}(h:¬ ahead x y)(k:¬ ahead y z):¬ ahead x z:=by unfold ahead at *;omega
theorem c0j{x y:Hi}(h:ahead x y):¬ ahead y x:=by unfold ahead at *;omega
theorem b6B(x:Hi):¬ ahead x x:=by unfold ahead;omega
def at_(l:List Hi)(i:Nat):Hi:=l.getD i ⟨0,0,0⟩
theorem a4H{l:List Hi}(h:i<l.length):at_ l i=l[i]:=by simp[at_,List.getD,h]
theorem b7r{l:List Hi}{x:Hi}:at_ (l.set i x) j=if i=j/\i<l.length then x else at_ l j:=by
 unfold at_ List.getD;rw[List.getElem?_set]
 by_cases h:i=j
 ·subst h
  by_cases k:i<l.length
  ·simp[k]
  ·simp[k]
 ·simp[h]
def par(i:Nat):Nat:=(i-1) / 2
def ok(l:List Hi)(i:Nat):Prop:=¬ ahead (at_ l i) (at_ l (par i))
def a6r(l:List Hi):Prop:=∀ i,0<i->i<l.length->ok l i
def swap(l:List Hi)(i j:Nat):List Hi:=(l.set i (at_ l j)).set j (at_ l i)
theorem a3G{l:List Hi}:(swap l i j).length=l.length:=by simp[swap]
theorem a6x{l:List Hi}(hi:i<l.length)(hj:j<l.length):(swap l i j).Perm l:=by
 unfold swap;rw[a4H hi,a4H hj];exact List.set_set_perm hi hj
theorem a3t{l:List Hi}(hi:i<l.length)(hj:j<l.length)(k:Nat):at_ (swap l i j) k=if k=j then at_ l i else if k=i then at_ l j else at_ l k:=by
 unfold swap;rw[b7r,b7r]
 by_cases h1:k=j
 ·subst h1;rw[if_pos ⟨rfl,by simpa using hj⟩,if_pos rfl]
 ·rw[if_neg (fun e=>h1 e.1.symm),if_neg h1]
  by_cases h2:k=i
  ·subst h2;rw[if_pos ⟨rfl,hi⟩,if_pos rfl]
  ·rw[if_neg (fun e=>h2 e.1.symm),if_neg h2]
theorem b4l{l:List Hi}(h:a6r l):∀ i,i<l.length->¬ ahead (at_ l i) (at_ l 0):=by
 intro i
 induction i using Nat.strongRecOn with
 |_ i ih =>
  intro hi
  by_cases c:i=0
  ·subst c;exact b6B _
  ·have:=h i (by omega) hi;exact a5b this (ih (par i) (by unfold par;omega) (by unfold par;omega))
structure a3T(l:List Hi)(p:Nat):Prop where
 o:∀ i,0<i->i<l.length->i≠p->ok l i
 c:0<p->∀ i,0<i->i<l.length->par i=p->¬ ahead (at_ l i) (at_ l (par p))
theorem a3T.done{l:List Hi}(h:a3T l p)(k:p=0\/¬ ahead (at_ l p) (at_ l (par p))):a6r l:=by
 intro i h0 hi
 by_cases e:i=p
 ·subst e;rcases k with k|k
  ·omega
  ·exact k
 ·exact h.o i h0 hi e
theorem a3T.step{l:List Hi}(h:a3T l p)(hp:p<l.length)(h0:0<p)(k:ahead (at_ l p) (at_ l (par p))):a3T (swap l p (par p)) (par p):=by
 have hq:par p<p:=by unfold par;omega
 have hql:par p<l.length:=by omega
 refine⟨fun i i0 hi hne=>?_,fun q0 i i0 hi he=>?_⟩
 ·rw[a3G] at hi;unfold ok;rw[a3t hp hql,a3t hp hql,if_neg hne]
  by_cases e:i=p
  ·subst e;rw[if_pos rfl,if_pos rfl];exact c0j k
  ·rw[if_neg e]
   by_cases e1:par i=par p
   ·rw[if_pos e1];have:=h.o i i0 hi e;unfold ok at this;rw[e1] at this;exact a5b this (c0j k)
   ·rw[if_neg e1]
    by_cases e2:par i=p
    ·rw[if_pos e2];exact h.c h0 i i0 hi e2
    ·rw[if_neg e2];exact h.o i i0 hi e
 ·rw[a3G] at hi
  have hqq:par (par p)<par p:=by
   have:par (par p)=(par p-1) / 2:=rfl;omega
  rw[a3t hp hql,a3t hp hql,if_neg (show par (par p)≠par p by omega),if_neg (show par (par p)≠p by omega)];have hqok:=h.o (par p) q0 hql (by omega);unfold ok at hqok
  by_cases e:i=par p
  ·rw[e] at he;omega
  ·rw[if_neg e]
   by_cases e1:i=p
   ·subst e1;rw[if_pos rfl];exact hqok
   ·rw[if_neg e1];have:=h.o i i0 hi e1;unfold ok at this;rw[he] at this;exact a5b this hqok
theorem c2v{l:List Hi}{x:Hi}(h:a6r l):a3T (l++[x]) l.length:=by
 have e:∀ i,i<l.length->at_ (l++[x]) i=at_ l i:=by
  intro i hi;unfold at_ List.getD;rw[List.getElem?_append_left hi]
 refine⟨fun i i0 hi hne=>?_,fun _ i i0 hi he=>?_⟩
 ·simp at hi;unfold ok;rw[e i (by omega),e (par i) (by unfold par;omega)];exact h i i0 (by omega)
 ·simp at hi;unfold par at he;omega
structure a5l(l:List Hi)(q p:Nat):Prop where
 qp:q<=p
 a:∀ i,0<i->i<l.length->i≠q->par i≠p->ok l i
 b:0<p->∀ i,0<i->i<l.length->par i=p->¬ ahead (at_ l i) (at_ l (par p))
 d:p≠q->0<q->ok l q
theorem a5l.done{l:List Hi}(h:a5l l q p)(hq:q<l.length)(k:∀ i,0<i->i<l.length->par i=p->¬ ahead (at_ l i) (at_ l p)):a3T l q:=by
 have o:∀ i,0<i->i<l.length->i≠q->ok l i:=by
  intro i i0 hi hne
  by_cases e:par i=p
  ·unfold ok;rw[e];exact k i i0 hi e
  ·exact h.a i i0 hi hne e
 refine⟨o,fun q0 i i0 hi he=>?_⟩
 by_cases e:p=q
 ·subst e;exact h.b q0 i i0 hi he
 ·have h1:=h.d e q0;have h2:=o i i0 hi (by intro e;subst e;unfold par at he;omega);unfold ok at h1 h2;rw[he] at h2;exact a5b h2 h1
theorem a5l.step{l:List Hi}{c:Nat}(h:a5l l q p)(c0:0<c)(hc:c<l.length)(hpc:par c=p)(k:ahead (at_ l c) (at_ l p))(kk:∀ i,0<i->i<l.length->par i=p->¬ ahead (at_ l i) (at_ l c)):a5l (swap l p c) q c:=by
 have hlt:p<c:=by unfold par at hpc;omega
 have hp:p<l.length:=by omega
 have qp:=h.qp;refine⟨by omega,fun i i0 hi hne hnc=>?_,fun _ i i0 hi he=>?_,fun _ q0=>?_⟩
 ·rw[a3G] at hi;unfold ok;rw[a3t hp hc,a3t hp hc,if_neg hnc]
  by_cases e:i=c
  ·subst e;rw[if_pos rfl,if_pos hpc];exact c0j k
  ·rw[if_neg e]
   by_cases e1:i=p
   ·subst e1;have:par i<i:=by unfold par;omega
    rw[if_pos rfl,if_neg (by omega)];exact h.b i0 c c0 hc hpc
   ·rw[if_neg e1]
    by_cases e2:par i=p
    ·rw[if_pos e2];exact kk i i0 hi e2
    ·rw[if_neg e2];exact h.a i i0 hi hne e2
 ·rw[a3G] at hi;have hic:c<i:=by unfold par at he;omega
  rw[a3t hp hc,a3t hp hc,if_neg (by omega),if_neg (by omega),if_neg (show par c≠c by omega),if_pos hpc];have:=h.a i i0 hi (by omega) (by omega);unfold ok at this;rw[he] at this;exact this
 ·unfold ok;have hq':par q<q:=by unfold par;omega
  rw[a3t hp hc,a3t hp hc,if_neg (show q≠c by omega),if_neg (show par q≠c by omega),if_neg (show par q≠p by omega)]
  by_cases e:q=p
  ·subst e;rw[if_pos rfl];exact h.b q0 c c0 hc hpc
  ·rw[if_neg e];exact h.d (by omega) q0
def cut(l:List Hi)(p:Nat):List Hi:=(l.set p (at_ l (l.length-1))).take (l.length-1)
theorem a4y{l:List Hi}:(cut l p).length=l.length-1:=by simp[cut]
theorem a9J{l:List Hi}(hi:i<l.length-1):at_ (cut l p) i=if i=p then at_ l (l.length-1) else at_ l i:=by
 have e:at_ (cut l p) i=at_ (l.set p (at_ l (l.length-1))) i:=by
  unfold cut;show (List.take _ _).getD i _=(l.set p (at_ l (l.length-1))).getD i _;unfold List.getD;rw[List.getElem?_take_of_lt hi]
 rw[e,b7r]
 by_cases c:i=p
 ·subst c;rw[if_pos ⟨rfl,by omega⟩,if_pos rfl]
 ·rw[if_neg (fun e=>c e.1.symm),if_neg c]
theorem b7j{l:List Hi}(hp:p<l.length):l.Perm (at_ l p :: cut l p):=by
 have hl:l.length-1<l.length:=by omega
 have h1:=(a6x (l:=l) (i:=p) (j:=l.length-1) hp hl).symm;have hlen:(swap l p (l.length-1)).length=l.length:=a3G
 have e:swap l p (l.length-1)=cut l p++[at_ l p]:=by
  refine List.ext_getElem (by rw[hlen,List.length_append,a4y];simp;omega) (fun i h2 h3=>?_);rw[hlen] at h2;have e1:=a3t hp hl i;rw[a4H (by rw[hlen];exact h2)] at e1;rw[e1]
  by_cases c:i=l.length-1
  ·rw[if_pos c,List.getElem_append_right (by rw[a4y];omega)];simp
  ·rw[if_neg c,List.getElem_append_left (by rw[a4y];omega)];have e2:=a9J (l:=l) (p:=p) (i:=i) (by omega);rw[a4H (by rw[a4y];omega)] at e2;rw[e2]
 rw[e] at h1;exact h1.trans (List.perm_append_comm.trans (by simp))
theorem c3y{l:List Hi}(h:a6r l):a6r (cut l (l.length-1)):=by
 intro i i0 hi;rw[a4y] at hi;unfold ok;rw[a9J hi,a9J (show par i<l.length-1 by unfold par;omega),if_neg (by omega),if_neg (show par i≠l.length-1 by unfold par;omega)];exact h i i0 (by omega)
theorem c3x{l:List Hi}(h:a6r l)(hp:p<l.length-1):a5l (cut l p) p p:=by
 refine⟨zq _,fun i i0 hi hne hnp=>?_,fun p0 i i0 hi he=>?_,fun e=>absurd rfl e⟩
 ·rw[a4y] at hi;unfold ok;rw[a9J hi,a9J (show par i<l.length-1 by unfold par;omega),if_neg hne,if_neg hnp];exact h i i0 (by omega)
 ·rw[a4y] at hi;have hip:i≠p:=by intro e;subst e;unfold par at he;omega
  have hpp:par p≠p:=by unfold par;omega
  rw[a9J hi,a9J (show par p<l.length-1 by unfold par;omega),if_neg hip,if_neg hpp];have h1:=h i i0 (by omega);have h2:=h p p0 (by omega);unfold ok at h1 h2;rw[he] at h1;exact a5b h1 h2
end Hp
def a9Z(x:Hp.Hi):List Value:=[.int .i64 x.t,.int .i64 x.n,.pointer (some ⟨x.v,0,none⟩)]
theorem a6R(l:List Hp.Hi):(l.flatMap a9Z).length=l.length*3:=by
 induction l with
 |nil=>rfl
 |cons x l ih=>simp only[List.flatMap_cons,List.length_append,List.length_cons,ih,a9Z,List.length_nil];omega
theorem a6i{l:List Hp.Hi}(h:i<l.length):l=l.take i++l[i] :: l.drop (i+1):=by rw[List.getElem_cons_drop,List.take_append_drop]
theorem a5H{l:List Hp.Hi}(h:i<l.length)(hj:j<3):(l.flatMap a9Z)[i*3+j]?=(a9Z l[i])[j]?:=by
 conv=>lhs;rw[a6i h,List.flatMap_append,List.flatMap_cons]
 have hlen:((l.take i).flatMap a9Z).length=i*3:=by rw[a6R,List.length_take_of_le (by omega)]
 rw[List.getElem?_append_right (by omega),hlen,Nat.add_sub_cancel_left,List.getElem?_append_left (by simp[a9Z];omega)]
theorem c0M{l:List Hp.Hi}(h:i<l.length)(x:Hp.Hi):(((l.flatMap a9Z).set (i*3) (.int .i64 x.t)).set (i*3+1) (.int .i64 x.n)).set (i*3+2) (.pointer (some ⟨x.v,0,none⟩))=(l.set i x).flatMap a9Z:=by
 have hlen:((l.take i).flatMap a9Z).length=i*3:=by rw[a6R,List.length_take_of_le (by omega)]
 conv=>lhs;rw[a6i h,List.flatMap_append,List.flatMap_cons]
 rw[List.set_append_right _ _ (by omega),List.set_append_right _ _ (by omega),List.set_append_right _ _ (by omega),hlen];rw[show i*3-i*3=0 from by omega,show i*3+1-i*3=1 from by omega,show i*3+2-i*3=2 from by omega]
 conv=>rhs;rw[List.set_eq_take_append_cons_drop,if_pos h,List.flatMap_append,List.flatMap_cons]
 simp[a9Z]
structure HP(w:World)(d o:Nat)(v:Value)(l:List Hp.Hi):Prop where
 c:w.cell? ⟨d,o,none⟩=some v
 own:w.ownsRow 0 286 3 v l.length (l.flatMap a9Z)
 ne:v.ownBlock≠some d
 fz:w.frozen? ⟨d,o,none⟩=false
theorem HP.form{l:List Hp.Hi}(h:HP w d o v l)(hl:0<l.length):∃ H cap,v=.slice (some ⟨H,0,none⟩) l.length cap:=by
 obtain⟨H,cap,e⟩:=Joins.ownsRow_form h.own hl;exact⟨H,cap,e⟩
theorem HP.at{l:List Hp.Hi}(h:HP w d o (.slice (some ⟨H,0,none⟩) l.length cap) l)(hi:i<l.length):w.cell? ⟨H,i*3,none⟩=some (.int .i64 (Hp.at_ l i).t)/\w.cell? ⟨H,i*3+1,none⟩=some (.int .i64 (Hp.at_ l i).n)/\w.cell? ⟨H,i*3+2,none⟩=some (.pointer (some ⟨(Hp.at_ l i).v,0,none⟩)):=by
 rw[Hp.a4H hi];refine⟨?_,?_,?_⟩
 ·exact (h.own.cellAt (i*3) (by omega)).trans (a5H hi (j:=0) (by omega))
 ·exact (h.own.cellAt (i*3+1) (by omega)).trans (a5H hi (j:=1) (by omega))
 ·exact (h.own.cellAt (i*3+2) (by omega)).trans (a5H hi (j:=2) (by omega))
theorem HP.off{l:List Hp.Hi}(h:HP w d o v l)(k:Off G w w')(h1:d ∉ G)(h2:∀ b,v.ownBlock=some b->b ∉ G):HP w' d o v l:=by
 refine⟨k.cell h1 h.c,⟨h.own.1,?_⟩,h.ne,(k.frozen h1 (World.block_lt_of_cell? _ _ h.c)).trans h.fz⟩;rcases h.own.2 with h0|⟨g,cap,cur,hv,hb,hh,rest⟩
 ·exact .inl h0
 ·refine .inr ⟨g,cap,cur,hv,hb,?_,rest⟩
  have hlt:g<w.heap.size:=by
   by_cases hx:g<w.heap.size
   ·exact hx
   ·rw[Array.getElem?_eq_none (by omega)] at hh;cases hh
  rw[k.block g hlt (h2 g (by rw[hv];rfl))];exact hh
theorem HP.later{l:List Hp.Hi}(h:HP w d o v l)(k:Below w.heap.size w w'):HP w' d o v l:=h.off (G:=[]) (Off.of_below k) (by simp) (by simp)
theorem HP.put{l:List Hp.Hi}(h:HP w d o (.slice (some ⟨H,0,none⟩) l.length cap) l)(hi:i<l.length)(x:Hp.Hi):HP (((w.setCell ⟨H,i*3,none⟩ (.int .i64 x.t)).setCell ⟨H,i*3+1,none⟩ (.int .i64 x.n)).setCell ⟨H,i*3+2,none⟩ (.pointer (some ⟨x.v,0,none⟩))) d o (.slice (some ⟨H,0,none⟩) (l.set i x).length cap) (l.set i x):=by
 have hne:d≠H:=fun e=>h.ne (by rw[e];rfl)
 have k:Off [H] w (((w.setCell ⟨H,i*3,none⟩ (.int .i64 x.t)).setCell ⟨H,i*3+1,none⟩ (.int .i64 x.n)).setCell ⟨H,i*3+2,none⟩ (.pointer (some ⟨x.v,0,none⟩))) :=
  (((Off.refl [H] w).setCell (.inl (by simp)) _ _).setCell (.inl (by simp)) _ _).setCell (.inl (by simp)) _ _
 refine⟨?_,?_,h.ne,?_⟩
 ·rw[List.length_set];exact k.cell (by simpa using hne) h.c
 ·rw[List.length_set,<- c0M hi x];exact ((((h.own.stored (i*3) (.int .i64 x.t)).1).stored (i*3+1) (.int .i64 x.n)).1.stored (i*3+2) (.pointer (some ⟨x.v,0,none⟩))).1
 ·exact (k.frozen (by simpa using hne) (World.block_lt_of_cell? _ _ h.c)).trans h.fz
theorem a5u(w:World)(H i j m:Nat)(a b c:Value):Off [H] w (((w.setCell ⟨H,i,none⟩ a).setCell ⟨H,j,none⟩ b).setCell ⟨H,m,none⟩ c) :=
 (((Off.refl [H] w).setCell (.inl (by simp)) _ _).setCell (.inl (by simp)) _ _).setCell (.inl (by simp)) _ _
theorem HP.swapped{l:List Hp.Hi}(h:HP w d o (.slice (some ⟨H,0,none⟩) l.length cap) l)(hi:i<l.length)(hj:j<l.length){x y:Hp.Hi}(hx:Hp.at_ l i=x)(hy:Hp.at_ l j=y):
  HP ((((((w.setCell ⟨H,i*3,none⟩ (.int .i64 y.t)).setCell ⟨H,i*3+1,none⟩ (.int .i64 y.n)).setCell ⟨H,i*3+2,none⟩ (.pointer (some ⟨y.v,0,none⟩))).setCell ⟨H,j*3,none⟩ (.int .i64 x.t)).setCell ⟨H,j*3+1,none⟩ (.int .i64 x.n)).setCell ⟨H,j*3+2,none⟩ (.pointer (some ⟨x.v,0,none⟩))) d o (.slice (some ⟨H,0,none⟩) l.length cap) (Hp.swap l i j)
  /\ Off [H] w ((((((w.setCell ⟨H,i*3,none⟩ (.int .i64 y.t)).setCell ⟨H,i*3+1,none⟩ (.int .i64 y.n)).setCell ⟨H,i*3+2,none⟩ (.pointer (some ⟨y.v,0,none⟩))).setCell ⟨H,j*3,none⟩ (.int .i64 x.t)).setCell ⟨H,j*3+1,none⟩ (.int .i64 x.n)).setCell ⟨H,j*3+2,none⟩ (.pointer (some ⟨x.v,0,none⟩))):=by
 refine⟨?_,(a5u _ _ _ _ _ _ _ _).trans (a5u _ _ _ _ _ _ _ _)⟩;have a:=(h.put hi y).put (i:=j) (by simpa using hj) x;subst hx hy;have e:((l.set i (Hp.at_ l j)).set j (Hp.at_ l i)).length=l.length:=by simp
 rw[e] at a;exact a
def a8y(x:Hp.Hi)(t n:Int):Int:=orI (b5t x.t t) (b5t x.n n)
theorem c5f(x y:Hp.Hi):a8y x y.t y.n<0↔Hp.ahead x y:=by
 unfold a8y orI b5t Hp.ahead
 split <;> split <;> (repeat split) <;> omega
theorem b3w(x:Hp.Hi)(t n:Int):a8y x t n=0↔x.t=t/\x.n=n:=by
 unfold a8y orI b5t
 split <;> split <;> (repeat split) <;> omega
theorem a8e(x:Hp.Hi)(t n:Int)(w:World):
  Calls Tryz.prog 203 #[.agg #[.int .i64 x.t,.int .i64 x.n,.pointer (some ⟨x.v,0,none⟩)],.int .i64 t,.int .i64 n] w fun e w'=>e=.returned (.int .i64 (a8y x t n))/\Below w.heap.size w w':=by
 unfold a8y;have HP:=a0b (fun w'=>a4C x.t t w');have HQ:=a0b (fun w'=>a4C x.n n w');generalize b5t x.t t=p at *;generalize b5t x.n n=q at *
 go_enter Tryz.func203,Tryz.ntmps203
 have hX:Below w.heap.size w (w.alloc (.cells #[.int .i64 x.t,.int .i64 x.n,.pointer (some ⟨x.v,0,none⟩)] 286)):=(zr _ _).alloc (zq _) _;have x0:(w.alloc (.cells #[.int .i64 x.t,.int .i64 x.n,.pointer (some ⟨x.v,0,none⟩)] 286)).cell? ⟨w.heap.size,0,none⟩=some (.int .i64 x.t):=by simp
 have x1:(w.alloc (.cells #[.int .i64 x.t,.int .i64 x.n,.pointer (some ⟨x.v,0,none⟩)] 286)).cell? ⟨w.heap.size,1,none⟩=some (.int .i64 x.n):=by simp
 go_upto_region 1 with fail
 generalize (World.alloc w (.cells #[.int .i64 x.t,.int .i64 x.n,.pointer (some ⟨x.v,0,none⟩)] 286))=X at x0 x1 hX ⊢;generalize hbe:w.heap.size=b at x0 x1 hX ⊢;have HB:=a0b hbe;clear hbe
 go_region_held3 (fun w'=>w'.cell? ⟨b,0,none⟩=some (.int .i64 x.t)/\w'.cell? ⟨b,1,none⟩=some (.int .i64 x.n)/\Below b w w')
  (first
   |exact⟨x0,x1,hX.drew⟩
   |(go_split_ands;refine⟨?_,?_,?_⟩ <;> assumption)
   |(go_split_ands;exact⟨a0a ((zr _ _).alloc (zq _) _) (by assumption),a0a ((zr _ _).alloc (zq _) _) (by assumption),a0j (by assumption) ((zr _ _).alloc (zq _) _) (by rw[HB.out];exact zq _)⟩))
  (first
   |(go_at_call_of 251 (Value.int .i64 t);refine (HP.out _).mono ?_;rintro e w' ⟨rfl,rfl⟩)
   |(go_at_call_of 251 (Value.int .i64 n);refine (HQ.out _).mono ?_;rintro e w' ⟨rfl,rfl⟩)
   |(go_at_call 250;refine (c4n _ p q _ (by simp) (by simp)).mono ?_;rintro e w' ⟨rfl,rfl⟩))
 all_goals
  have HF:Hid (Below w.heap.size w (World.drew (World.alloc X (.cells #[.int .i64 p,.int .i64 q] 3)))):=by
   have h:=a0j hX ((zr X.heap.size X).alloc (zq _) (.cells #[.int .i64 p,.int .i64 q] 3)) (by rw[HB.out];exact zq _);rw[HB.out];exact h.drew
  go_wp2_with fail
  go_ret;exact⟨rfl,HF.out⟩
def b1h(x y:Hp.Hi):Bool:=decide (a8y x y.t y.n<0)
theorem a7Q{x y:Hp.Hi}:b1h x y=true↔Hp.ahead x y:=by unfold b1h;rw[decide_eq_true_iff,c5f]
theorem b1g{x y:Hp.Hi}:b1h x y=false↔¬ Hp.ahead x y:=by rw[<- a7Q];simp
def c6P(l:List Hp.Hi):Int:=if l.length=0 then 0 else (Hp.at_ l 0).t
def c5M(l:List Hp.Hi):Bool:=!(l.length==0)
theorem b1V{l:List Hp.Hi}(h:0<l.length):c6P l=(Hp.at_ l 0).t:=by rw[c6P,if_neg (by omega)]
theorem b1W{l:List Hp.Hi}(h:0<l.length):c5M l=true:=by unfold c5M;simp;intro e;simp[e] at h
theorem b0P(d o:Nat)(v:Value)(l:List Hp.Hi)(w:World)(h:HP w d o v l):
  Calls Tryz.prog 155 #[.pointer (some ⟨d,o,none⟩)] w fun e w'=>e=.returned (.tuple #[.int .i64 (c6P l),.bool (c5M l)])/\w'=w:=by
 have c:=h.c
 by_cases hl:l=[]
 ·subst hl
  have hv:∃ a cap,v=.slice a 0 cap:=by
   rcases h.own.2 with ⟨rfl,_⟩|⟨g,cap,_,rfl,_⟩
   ·exact⟨_,_,rfl⟩
   ·exact⟨_,_,rfl⟩
  obtain⟨a,cap,rfl⟩:=hv;clear h
  go_enter Tryz.func155,Tryz.ntmps155
  go_wp2_with fail
  go_ret2;exact⟨rfl,rfl⟩
 ·have hp:0<l.length:=List.length_pos_iff.2 hl;obtain⟨H,cap,rfl⟩:=h.form hp;have c0:=(h.at hp).1;simp only[Nat.zero_mul] at c0;have hi:¬ ((l.length:Int)=0):=by omega
  have E:=a0b (And.intro (b1V hp) (b1W hp));clear h
  go_enter Tryz.func155,Tryz.ntmps155
  go_wp2_with fail
  go_ret2;exact⟨by rw[E.out.1,E.out.2];rfl,rfl⟩
theorem a9n(d o:Nat)(v:Value)(l:List Hp.Hi)(i j:Nat)(w:World)(h:HP w d o v l)(hi:i<l.length)(hj:j<l.length)(hl:l.length<=1000):
  Calls Tryz.prog 274 #[.pointer (some ⟨d,o,none⟩),.int .i64 i,.int .i64 j] w fun e w'=>e=.returned (.bool (b1h (Hp.at_ l i) (Hp.at_ l j)))/\Below w.heap.size w w':=by
 obtain⟨H,cap,rfl⟩:=h.form (by omega);have c:=h.c;obtain⟨a0,a1,a2⟩:=h.at hi;obtain⟨b0,b1,b2⟩:=h.at hj;have CM:=a0b (fun w'=>a8e (Hp.at_ l i) (Hp.at_ l j).t (Hp.at_ l j).n w');have i1:(i:Int)<(l.length:Int):=by omega
 have j1:(j:Int)<(l.length:Int):=by omega
 clear h;generalize Hp.at_ l i=x at *;generalize Hp.at_ l j=y at *
 go_enter Tryz.func274,Tryz.ntmps274
 go_upto_region 1 with fail
 go_region_held3 (fun w'=>w'.cell? ⟨d,o,none⟩=some (.slice (some ⟨H,0,none⟩) l.length cap)/\w'.cell? ⟨H,i*3,none⟩=some (.int .i64 x.t)/\w'.cell? ⟨H,i*3+1,none⟩=some (.int .i64 x.n)/\w'.cell? ⟨H,i*3+2,none⟩=some (.pointer (some ⟨x.v,0,none⟩))/\w'.cell? ⟨H,j*3,none⟩=some (.int .i64 y.t)/\w'.cell? ⟨H,j*3+1,none⟩=some (.int .i64 y.n))
  (first
   |exact⟨c,a0,a1,a2,b0,b1⟩
   |exact⟨a0a k1 c,a0a k1 a0,a0a k1 a1,a0a k1 a2,a0a k1 b0,a0a k1 b1⟩)
  (first
   |(go_at_call 203;refine (CM.out _).mono ?_;rintro e w4 ⟨rfl,k1⟩))
 have HK:Hid (Below w.heap.size w w4):=a0j (a0q w) k1 (zq _);clear k1
 go_wp2_with fail
 go_ret;exact⟨rfl,HK.out⟩
theorem a9q(d o H cap:Nat)(l:List Hp.Hi)(i j:Nat)(w:World)(h:HP w d o (.slice (some ⟨H,0,none⟩) l.length cap) l)(hi:i<l.length)(hj:j<l.length)(hij:i≠j):
  Calls Tryz.prog 275 #[.pointer (some ⟨d,o,none⟩),.int .i64 i,.int .i64 j] w fun e w'=>e=.returned (.tuple #[])/\HP w' d o (.slice (some ⟨H,0,none⟩) l.length cap) (Hp.swap l i j)/\Off [H] w w':=by
 have c:=h.c;obtain⟨a0,a1,a2⟩:=h.at hi;obtain⟨b0,b1,b2⟩:=h.at hj;have fz:∀ k,w.frozen? ⟨H,k,none⟩=false:=fun k=>h.own.frozenAt k
 have i1:(i:Int)<(l.length:Int):=by omega
 have j1:(j:Int)<(l.length:Int):=by omega
 have HS:=a0b (h.swapped hi hj rfl rfl);clear h;generalize Hp.at_ l i=x at *;generalize Hp.at_ l j=y at *
 go_enter Tryz.func275,Tryz.ntmps275
 go_upto_region 0 with fail
 go_big_region
 go_end0
 exact⟨rfl,HS.out.1.off (G:=[]) ((Off.refl _ _).drew) (by simp) (by simp),HS.out.2.drew⟩
structure a3b(w wx:World)(d o H n cap:Nat)(l l':List Hp.Hi):Prop where
 hp:HP wx d o (.slice (some ⟨H,0,none⟩) n cap) l'
 len:l'.length=n
 perm:l'.Perm l
 off:Off [H] w wx
theorem a3b.new{l:List Hp.Hi}(h:HP w d o (.slice (some ⟨H,0,none⟩) l.length cap) l):a3b w w d o H l.length cap l l:=⟨h,rfl,.refl _,Off.refl _ _⟩
theorem a3b.later{l l':List Hp.Hi}(h:a3b w wx d o H n cap l l')(k:Below wx.heap.size wx wy):a3b w wy d o H n cap l l' :=
 ⟨h.hp.later k,h.len,h.perm,h.off.trans' (Off.of_below (F:=[]) k) (by simp)⟩
theorem b6g(d o H cap:Nat)(l:List Hp.Hi)(p:Nat)(w:World)(h:HP w d o (.slice (some ⟨H,0,none⟩) l.length cap) l)(hp:p<l.length)(hr:Hp.a3T l p)(hl:l.length<=1000):
  Calls Tryz.prog 248 #[.pointer (some ⟨d,o,none⟩),.int .i64 p] w fun e w'=>e=.returned (.tuple #[])/\∃ l',a3b w w' d o H l.length cap l l'/\Hp.a6r l':=by
 have T0:=a0b (a3b.new h);have R0:=a0b hr;clear h hr
 go_enter Tryz.func248,Tryz.ntmps248
 go_wp2_with fail
 go_loopw [1] (fun v wx=>∃ (q:Nat) (l':List Hp.Hi),v=.int .i64 q/\q<l.length/\Hp.a3T l' q/\a3b w wx d o H l.length cap l l') (fun v _=>(intOf v).toNat)
 case atStart=>exact⟨p,l,rfl,hp,R0.out,T0.out⟩
 case round =>
  obtain⟨q,l',rfl,hq,hr,ht⟩:=hrel
  by_cases h0:0<q
  ·have i0:(0:Int)<(q:Int):=by omega
   have HT:=a0b ht;have HR:=a0b hr
   have ea:((((q:Int)-1).tdiv 2))=((Hp.par q:Nat):Int):=by
    unfold Hp.par;rw[Int.tdiv_eq_ediv_of_nonneg (by omega)];omega
   have ew:IntKind.i64.wrap ((q:Int)-1)=(q:Int)-1:=a0i (by omega) (by omega);have hpq:Hp.par q<q:=by unfold Hp.par;omega
   have AH:=a0b (fun wy (k:Below wr.heap.size wr wy)=>a9n d o _ l' q (Hp.par q) wy (ht.hp.later k) (by rw[ht.len];omega) (by rw[ht.len];omega) (by rw[ht.len];omega));clear hr ht
   go_wp2_with fail
   refine (AH.out _ (zr _ _)).mono ?_;rintro e w4 ⟨rfl,k1⟩;have HT4:=a0b (HT.out.later k1);clear AH HT k1
   cases hb:b1h (Hp.at_ l' q) (Hp.at_ l' (Hp.par q))
   ·have HF:=a0b (And.intro HT4.out (HR.out.done (.inr (b1g.1 hb))));clear HT4 HR
    go_wp2_with fail
    (try simp only[Exit.inBlock,Exit.then]);refine bodyPost_ret (results_none rfl _ _ _) rfl ?_
    exact⟨rfl,l',HF.out⟩
   ·have hlen:=HT4.out.len;have SW:=a0b (a9q d o H cap l' q (Hp.par q) w4 (by rw[hlen];exact HT4.out.hp) (by omega) (by omega) (by omega));have HS:=a0b (HR.out.step (by omega) h0 (a7Q.1 hb));have HL:=a0b hlen;clear HR hlen
    go_wp2_with fail
    refine SW.out.mono ?_;rintro e w5 ⟨rfl,k2,k3⟩
    have HN:Hid (a3b w w5 d o H l.length cap l (Hp.swap l' q (Hp.par q))) :=
     ⟨by rw[<- HL.out];exact k2,Hp.a3G.trans HL.out,(Hp.a6x (by rw[HL.out];omega) (by rw[HL.out];omega)).trans HT4.out.perm,HT4.out.off.trans k3⟩
    clear k2 k3 SW HT4
    go_wp2_with fail
    go_roundw
    case rel=>exact⟨Hp.par q,_,rfl,by omega,HS.out,HN.out⟩
    case measure=>simp[intOf];omega
  ·have e0:q=0:=by omega
   subst e0;have HF:=a0b (And.intro ht (hr.done (.inl rfl)));clear hr ht
   go_wp2_with fail
   go_end0
   exact⟨rfl,l',HF.out⟩
structure a4I(l:List Hp.Hi)(q f b:Nat):Prop where
 b0:2*q+1<=b
 b1:b<=2*q+3
 f1:f<l.length
 ff:f=q\/(2*q+1<=f/\f<b/\Hp.ahead (Hp.at_ l f) (Hp.at_ l q))
 no:∀ i,2*q+1<=i->i<b->i<l.length->¬ Hp.ahead (Hp.at_ l i) (Hp.at_ l f)
theorem a4I.new{l:List Hp.Hi}(h:q<l.length):a4I l q q (2*q+1):=⟨by omega,by omega,h,.inl rfl,fun i h1 h2 _=>by omega⟩
theorem a4I.notS{l:List Hp.Hi}(h:a4I l q f b)(hb:b<=2*q+2)(k:¬ Hp.ahead (Hp.at_ l b) (Hp.at_ l f)):a4I l q f (b+1):=by
 refine⟨by have:=h.b0;omega,by omega,h.f1,?_,fun i h1 h2 h3=>?_⟩
 ·rcases h.ff with e|⟨e1,e2,e3⟩
  ·exact .inl e
  ·exact .inr ⟨e1,by omega,e3⟩
 ·by_cases e:i=b
  ·subst e;exact k
  ·exact h.no i h1 (by omega) h3
theorem a4I.yes{l:List Hp.Hi}(h:a4I l q f b)(hb:b<=2*q+2)(hl:b<l.length)(k:Hp.ahead (Hp.at_ l b) (Hp.at_ l f)):a4I l q b (b+1):=by
 have h0:=h.b0;refine⟨by omega,by omega,hl,.inr ⟨by omega,by omega,?_⟩,fun i h1 h2 h3=>?_⟩
 ·rcases h.ff with e|⟨e1,e2,e3⟩
  ·rw[<- e];exact k
  ·unfold Hp.ahead at *;omega
 ·by_cases e:i=b
  ·subst e;exact Hp.b6B _
  ·have:=h.no i h1 (by omega) h3;unfold Hp.ahead at *;omega
theorem a4I.all{l:List Hp.Hi}(h:a4I l q f b)(hb:¬ b<=2*q+2\/¬ b<l.length):∀ i,0<i->i<l.length->Hp.par i=q->¬ Hp.ahead (Hp.at_ l i) (Hp.at_ l f):=by
 intro i h0 h1 h2;have:=h.b0;unfold Hp.par at h2;exact h.no i (by omega) (by omega) h1
theorem c2m(d o H cap:Nat)(l:List Hp.Hi)(p:Nat)(w:World)(h:HP w d o (.slice (some ⟨H,0,none⟩) l.length cap) l)(hp:p<l.length)(hr:Hp.a5l l p p)(hl:l.length<=1000):
  Calls Tryz.prog 252 #[.pointer (some ⟨d,o,none⟩),.int .i64 p] w fun e w'=>e=.returned (.tuple #[])/\∃ l',a3b w w' d o H l.length cap l l'/\Hp.a3T l' p:=by
 have T0:=a0b (a3b.new h);have R0:=a0b hr;clear h hr
 go_enter Tryz.func252,Tryz.ntmps252
 go_wp2_with fail
 go_loopw [1] (fun v wx=>∃ (q:Nat) (l':List Hp.Hi),v=.int .i64 q/\q<l.length/\Hp.a5l l' p q/\a3b w wx d o H l.length cap l l') (fun v _=>l.length-(intOf v).toNat)
 case atStart=>exact⟨p,l,rfl,hp,R0.out,T0.out⟩
 case round =>
  obtain⟨q,l',rfl,hq,hr,ht⟩:=hrel;have HT:=a0b ht;have HR:=a0b hr;clear hr ht;have w1:IntKind.i64.wrap (2*(q:Int))=2*(q:Int):=a0i (by omega) (by omega);have w2:IntKind.i64.wrap (2*(q:Int)+1)=2*(q:Int)+1:=a0i (by omega) (by omega);have w3:IntKind.i64.wrap (2*(q:Int)+2)=2*(q:Int)+2:=a0i (by omega) (by omega)
  go_wp2_with fail
  go_loopw [4,5] (fun vf vb wx=>∃ f b:Nat,vf=.int .i64 f/\vb=.int .i64 b/\a4I l' q f b/\a3b w wx d o H l.length cap l l') (fun _ vb _=>2*q+3-(intOf vb).toNat)
  case atStart=>exact⟨q,2*q+1,rfl,by simp,a4I.new (by rw[HT.out.len];exact hq),HT.out⟩
  case round =>
   obtain⟨f,b,rfl,rfl,hs,ht⟩:=hrel;have hlen:=ht.len;have hc:=ht.hp.c
   by_cases hb1:b<=2*q+2
   ·have b1:(b:Int)<=2*(q:Int)+2:=by omega
    by_cases hb2:b<l.length
    ·have b2:(b:Int)<(l.length:Int):=by omega
     have fb:=hs.f1;have AH:=a0b (a9n d o _ l' b f wr ht.hp (by omega) (by omega) (by omega));have HT2:=a0b ht;have HS:=a0b hs;have hw:IntKind.i64.wrap ((b:Int)+1)=((b+1:Nat):Int):=by rw[a0i (by omega) (by omega)];omega
     clear ht hs
     go_wp2_with fail
     refine AH.out.mono ?_;rintro e w4 ⟨rfl,k1⟩;have HT4:=a0b (HT2.out.later k1);clear AH HT2 k1
     cases hb:b1h (Hp.at_ l' b) (Hp.at_ l' f)
     ·have HN:=a0b (HS.out.notS hb1 (b1g.1 hb));clear HS
      go_wp2_with fail
      go_roundw
      case rel=>exact⟨f,b+1,rfl,rfl,HN.out,HT4.out⟩
      case measure=>simp[intOf];omega
     ·have HN:=a0b (HS.out.yes hb1 (by omega) (a7Q.1 hb));clear HS
      go_wp2_with fail
      go_roundw
      case rel=>exact⟨b,b+1,rfl,rfl,HN.out,HT4.out⟩
      case measure=>simp[intOf];omega
    ·have b2:¬ ((b:Int)<(l.length:Int)):=by omega
     have HALL:=a0b (hs.all (by omega));have hff:=hs.ff;have hf1:=hs.f1;have hqp:=HR.out.qp;have HT2:=a0b ht;have HL:=a0b hlen
     by_cases hfq:f=q
     ·subst hfq;have HF:=a0b (And.intro ht (HR.out.done (by omega) HALL.out));clear ht hs HALL hff hf1 HT2 HT HR HL hlen
      go_wp2_with fail
      (try simp only[Exit.inBlock,Exit.then]);refine bodyPost_ret (results_none rfl _ _ _) rfl ?_
      exact⟨rfl,l',HF.out⟩
     ·have hfq':¬ ((f:Int)=(q:Int)):=by omega
      have hf2:2*q+1<=f:=by omega
      have SW:=a0b (a9q d o H cap l' q f wr (by rw[hlen];exact ht.hp) (by omega) (by omega) (by omega));have hah:Hp.ahead (Hp.at_ l' f) (Hp.at_ l' q):=by rcases hff with e|e;exact absurd e hfq;exact e.2.2
      have HS:=a0b (HR.out.step (c:=f) (by omega) hf1 (by unfold Hp.par;have:=hs.ff;have:=hs.b1;omega) hah HALL.out);clear ht hs HALL hff hah hlen
      go_wp2_with fail
      refine SW.out.mono ?_;rintro e w5 ⟨rfl,k2,k3⟩
      have HN:Hid (a3b w w5 d o H l.length cap l (Hp.swap l' q f)) :=
       ⟨by rw[<- HL.out];exact k2,Hp.a3G.trans HL.out,(Hp.a6x (by rw[HL.out];omega) hf1).trans HT2.out.perm,HT2.out.off.trans k3⟩
      clear k2 k3 SW HT2 HT
      go_wp2_with fail
      go_roundw
      case rel=>exact⟨f,_,rfl,by rw[<- HL.out];exact hf1,HS.out,HN.out⟩
      case measure=>have:=HL.out;simp[intOf];omega
   ·have b1:¬ ((b:Int)<=2*(q:Int)+2):=by omega
    have HALL:=a0b (hs.all (by omega));have hff:=hs.ff;have hf1:=hs.f1;have hqp:=HR.out.qp;have HT2:=a0b ht;have HL:=a0b hlen
    by_cases hfq:f=q
    ·subst hfq;have HF:=a0b (And.intro ht (HR.out.done (by omega) HALL.out));clear ht hs HALL hff hf1 HT2 HT HR HL hlen
     go_wp2_with fail
     (try simp only[Exit.inBlock,Exit.then]);refine bodyPost_ret (results_none rfl _ _ _) rfl ?_
     exact⟨rfl,l',HF.out⟩
    ·have hfq':¬ ((f:Int)=(q:Int)):=by omega
     have hf2:2*q+1<=f:=by omega
     have SW:=a0b (a9q d o H cap l' q f wr (by rw[hlen];exact ht.hp) (by omega) (by omega) (by omega));have hah:Hp.ahead (Hp.at_ l' f) (Hp.at_ l' q):=by rcases hff with e|e;exact absurd e hfq;exact e.2.2
     have HS:=a0b (HR.out.step (c:=f) (by omega) hf1 (by unfold Hp.par;have:=hs.ff;have:=hs.b1;omega) hah HALL.out);clear ht hs HALL hff hah hlen
     go_wp2_with fail
     refine SW.out.mono ?_;rintro e w5 ⟨rfl,k2,k3⟩
     have HN:Hid (a3b w w5 d o H l.length cap l (Hp.swap l' q f)) :=
      ⟨by rw[<- HL.out];exact k2,Hp.a3G.trans HL.out,(Hp.a6x (by rw[HL.out];omega) hf1).trans HT2.out.perm,HT2.out.off.trans k3⟩
     clear k2 k3 SW HT2 HT
     go_wp2_with fail
     go_roundw
     case rel=>exact⟨f,_,rfl,by rw[<- HL.out];exact hf1,HS.out,HN.out⟩
     case measure=>have:=HL.out;simp[intOf];omega
namespace Desk
structure Ent where
 id:Int
 kind:Int
 a0k:ByteArray
 a0c:Int
 a0e:List (Int × Int)
 a0Z:Int
def hasB(t:Int)(s:Int × Int):Bool:=decide (s.1<=t) && decide (t<s.2)
def a0r(L:List (Int × Int))(t:Int):Int:=((L.filter (hasB t)).length:Int)
def a0y(a b:ByteArray):Bool:=a.toList==b.toList
def ofB(name:ByteArray)(e:Ent):Bool:=a0y e.a0k name && (e.kind != 3)
def a0o(name:ByteArray)(t:Int):List Ent->Int
 |[]=>0
 |e :: r=>(if ofB name e then a0r e.a0e t*e.a0c else 0)+a0o name t r
def a2L(name:ByteArray):List Ent->List Int
 |[]=>[]
 |e :: r=>(if a0y e.a0k name then e.a0e.map (·.1) else [])++a2L name r
theorem a4Q(L:List (Int × Int))(t:Int):0<=a0r L t/\a0r L t<=L.length:=by
 unfold a0r;have:=List.length_filter_le (hasB t) L;omega
theorem e6b(L:List (Int × Int))(s:Int × Int)(t:Int):a0r (L++[s]) t=a0r L t+if hasB t s then 1 else 0:=by
 unfold a0r;rw[List.filter_append,List.length_append]
 cases h:hasB t s <;> simp[h]
theorem a2z(name:ByteArray)(t:Int)(l r:List Ent):a0o name t (l++r)=a0o name t l+a0o name t r:=by
 induction l with
 |nil=>simp[a0o]
 |cons e l ih=>simp only[List.cons_append,a0o,ih];omega
theorem d9J(name:ByteArray)(l r:List Ent):a2L name (l++r)=a2L name l++a2L name r:=by
 induction l with
 |nil=>rfl
 |cons e l ih=>simp only[List.cons_append,a2L,ih,List.append_assoc]
structure Small(e:Ent):Prop where
 u0:0<=e.a0c
 u1:e.a0c<=9
 sl:e.a0e.length<=100
theorem e3w(name:ByteArray)(t:Int)(l:List Ent)(h:∀ e∈l,Small e):0<=a0o name t l/\a0o name t l<=900*l.length:=by
 induction l with
 |nil=>simp[a0o]
 |cons e l ih =>
  have i:=ih (fun x hx=>h x (by simp[hx]));have s:=h e (by simp);have b:=a4Q e.a0e t;have u0:=s.u0;have u1:=s.u1;have sl:=s.sl;have c:0<=a0r e.a0e t*e.a0c:=Int.mul_nonneg b.1 s.u0;have d:a0r e.a0e t*e.a0c<=100*9:=Int.mul_le_mul (by omega) s.u1 s.u0 (by omega);simp only[a0o,List.length_cons]
  split <;> omega
end Desk
def RSL(w:World)(B:Nat)(L:List (Int × Int)):Prop:=∀ (i:Nat)(h:i<L.length),w.cell? ⟨B,i*2,none⟩=some (.int .i64 L[i].1)/\w.cell? ⟨B,i*2+1,none⟩=some (.int .i64 L[i].2)
theorem RSL.off(h:RSL w B L)(k:Off G w w')(hB:B ∉ G):RSL w' B L:=fun i hi=>⟨k.cell hB (h i hi).1,k.cell hB (h i hi).2⟩
theorem RSL.later(h:RSL w B L)(k:Below w.heap.size w w'):RSL w' B L:=h.off (G:=[]) (Off.of_below k) (by simp)
structure RE(w:World)(E i:Nat)(e:Desk.Ent)(B cap:Nat):Prop where
 c0:w.cell? ⟨E,i*6,none⟩=some (.int .i64 e.id)
 c1:w.cell? ⟨E,i*6+1,none⟩=some (.int .i64 e.kind)
 c2:w.cell? ⟨E,i*6+2,none⟩=some (.string e.a0k)
 c3:w.cell? ⟨E,i*6+3,none⟩=some (.int .i64 e.a0c)
 c4:w.cell? ⟨E,i*6+4,none⟩=some (.slice (some ⟨B,0,none⟩) e.a0e.length cap)
 c5:w.cell? ⟨E,i*6+5,none⟩=some (.int .i64 e.a0Z)
 sl:RSL w B e.a0e
theorem RE.later{e:Desk.Ent}(h:RE w E i e B cap)(k:Below w.heap.size w w'):RE w' E i e B cap:=by
 have o:Off [] w w':=Off.of_below k;exact⟨o.cell (by simp) h.c0,o.cell (by simp) h.c1,o.cell (by simp) h.c2,o.cell (by simp) h.c3,o.cell (by simp) h.c4,o.cell (by simp) h.c5,h.sl.off o (by simp)⟩
structure RDE(w:World)(d:Nat)(a:Option Addr)(cap E:Nat)(es:List Desk.Ent):Prop where
 c:w.cell? ⟨d,1,none⟩=some (.slice a es.length cap)
 a:es≠[]->a=some ⟨E,0,none⟩
 r:∀ (i:Nat) (h:i<es.length),∃ B cap,RE w E i es[i] B cap
theorem RDE.later{es:List Desk.Ent}(h:RDE w d a cap E es)(k:Below w.heap.size w w'):RDE w' d a cap E es :=
 ⟨(Off.of_below (F:=[]) k).cell (by simp) h.c,h.a,fun i hi=>by obtain⟨B,c,r⟩:=h.r i hi;exact⟨B,c,r.later k⟩⟩
theorem RDE.at{es:List Desk.Ent}(h:RDE w d a cap E es)(hi:i<es.length):a=some ⟨E,0,none⟩:=h.a (by intro e;simp[e] at hi)
theorem e3i(B cap:Nat)(L:List (Int × Int))(t:Int)(w:World)(h:RSL w B L)(hl:L.length<=100000):
  Calls Tryz.prog 241 #[.slice (some ⟨B,0,none⟩) L.length cap,.int .i64 t] w fun e w'=>e=.returned (.int .i64 (Desk.a0r L t))/\w'=w:=by
 have HS:=a0b h;clear h
 go_enter Tryz.func241,Tryz.ntmps241
 go_wp2_with fail
 go_loop [5,6] (fun n i=>∃ k:Nat,k<=L.length/\i=.int .i64 k/\n=.int .i64 (Desk.a0r (L.take k) t)) (fun _ i=>L.length-(intOf i).toNat)
 case atStart=>exact⟨0,Nat.zero_le _,rfl,by simp[Desk.a0r]⟩
 case round =>
  obtain⟨k,hk,rfl,rfl⟩:=hrel;have bd:=Desk.a4Q (L.take k) t;have bl:=List.length_take_le k L
  by_cases hlt:k<L.length
  ·have c1:=(HS.out k hlt).1;have c2:=(HS.out k hlt).2;have hi:(k:Int)<(L.length:Int):=by omega
   have e:Desk.a0r (L.take (k+1)) t=Desk.a0r (L.take k) t+if Desk.hasB t L[k] then 1 else 0:=by rw[List.take_succ_eq_append_getElem hlt,Desk.e6b]
   have E:=a0b e;clear e;generalize Desk.a0r (L.take k) t=n at *
   by_cases h1:L[k].1<=t
   ·by_cases h2:t<L[k].2
    ·have hb:Hid (Desk.hasB t L[k]=true):=by show Desk.hasB t L[k]=true;simp[Desk.hasB,h1,h2]
     go_wp2_with fail
     go_round
     case rel=>exact⟨k+1,by omega,by go_num,by rw[E.out,hb.out];rfl⟩
     case measure=>simp[intOf];omega
    ·have hb:Hid (Desk.hasB t L[k]=false):=by show Desk.hasB t L[k]=false;simp[Desk.hasB,h2]
     go_wp2_with fail
     go_round
     case rel=>exact⟨k+1,by omega,by go_num,by rw[E.out,hb.out];simp⟩
     case measure=>simp[intOf];omega
   ·have hb:Hid (Desk.hasB t L[k]=false):=by show Desk.hasB t L[k]=false;simp[Desk.hasB,h1]
    go_wp2_with fail
    go_round
    case rel=>exact⟨k+1,by omega,by go_num,by rw[E.out,hb.out];simp⟩
    case measure=>simp[intOf];omega
  ·have e:L.take k=L:=List.take_of_length_le (by omega);have hi:¬ (k:Int)<(L.length:Int):=by omega
   go_wp2_with fail
   go_ret;exact⟨a1L (by first|rfl|rw[e]),rfl⟩
theorem e3v(d:Nat)(a:Option Addr)(cap E:Nat)(es:List Desk.Ent)(name:ByteArray)(t:Int)(w:World)(h:RDE w d a cap E es)(hl:es.length<=1000)(hs:∀ e∈es,Desk.Small e):
  Calls Tryz.prog 242 #[.pointer (some ⟨d,0,none⟩),.string name,.int .i64 t] w fun e w'=>e=.returned (.int .i64 (Desk.a0o name t es))/\Below w.heap.size w w':=by
 have H:=a0b h;have HS:=a0b hs;clear h hs
 go_enter Tryz.func242,Tryz.ntmps242
 go_wp2_with fail
 go_loopw [7,8,9,10] (fun n i _ _ wx=>∃ k:Nat,k<=es.length/\i=.int .i64 k/\n=.int .i64 (Desk.a0o name t (es.take k))/\Below w.heap.size w wx) (fun _ i _ _ _=>es.length-(intOf i).toNat)
 case atStart=>exact⟨0,Nat.zero_le _,rfl,by simp[Desk.a0o],Below.refl _ _⟩
 case round =>
  obtain⟨k,hk,rfl,rfl,hb⟩:=hrel;have bd:=Desk.e3w name t (es.take k) (fun e he=>HS.out e (List.mem_of_mem_take he));have bl:=List.length_take_le k es;have hx:=H.out.later hb;have cc:=hx.c
  by_cases hlt:k<es.length
  ·obtain rfl:=H.out.at hlt;obtain⟨B,cp,hr⟩:=hx.r k hlt;have hsm:=HS.out es[k] (zg hlt);have c0:=hr.c0;have c1:=hr.c1;have c2:=hr.c2;have c3:=hr.c3;have c4:=hr.c4;have c5:=hr.c5;have hi:(k:Int)<(es.length:Int):=by omega
   have e:Desk.a0o name t (es.take (k+1))=Desk.a0o name t (es.take k)+(if Desk.ofB name es[k] then Desk.a0r es[k].a0e t*es[k].a0c else 0):=by
    rw[List.take_succ_eq_append_getElem hlt,Desk.a2z];simp[Desk.a0o]
   have EE:=a0b e;have tb:=Desk.a4Q es[k].a0e t;have u0:=hsm.u0;have u1:=hsm.u1;have sl:=hsm.sl;have m0:0<=Desk.a0r es[k].a0e t*es[k].a0c:=Int.mul_nonneg tb.1 u0;have m1:Desk.a0r es[k].a0e t*es[k].a0c<=900:=by have:Desk.a0r es[k].a0e t*es[k].a0c<=100*9:=Int.mul_le_mul (by omega) u1 u0 (by omega);omega
   have RS:=a0b hr.sl;clear e hr hx hsm;generalize Desk.a0o name t (es.take k)=n at *
   cases hq:Desk.a0y es[k].a0k name
   ·have ho:Hid (Desk.ofB name es[k]=false):=by show Desk.ofB name es[k]=false;simp[Desk.ofB,hq]
    have hq':(es[k].a0k.toList==name.toList)=false:=hq;have HB:=a0b hb;clear hb hq
    go_wp2_with fail
    go_roundw
    case rel=>exact⟨k+1,by omega,by go_num,by rw[EE.out,ho.out];simp,a0j HB.out ((zr _ _).alloc (zq _) _) (zq _)⟩
    case measure=>simp[intOf];omega
   ·have hq':(es[k].a0k.toList==name.toList)=true:=hq;have HB:=a0b hb
    by_cases hk3:es[k].kind=3
    ·have hk':(es[k].kind != 3)=false:=by simp[hk3]
     have ho:Hid (Desk.ofB name es[k]=false):=by show Desk.ofB name es[k]=false;simp[Desk.ofB,hk3]
     clear hb hq hk3
     go_wp2_with fail
     go_roundw
     case rel=>exact⟨k+1,by omega,by go_num,by rw[EE.out,ho.out];simp,a0j HB.out ((zr _ _).alloc (zq _) _) (zq _)⟩
     case measure=>simp[intOf];omega
    ·have hk':(es[k].kind != 3)=true:=by simp[hk3]
     have ho:Hid (Desk.ofB name es[k]=true):=by show Desk.ofB name es[k]=true;simp[Desk.ofB,hq,hk3]
     clear hb hq hk3;have TM:=a0b (fun w' (k':Below wr.heap.size wr w')=>e3i B cp es[k].a0e t w' (RS.out.later k') (by omega))
     have EN:Hid (n+Desk.a0r es[k].a0e t*es[k].a0c=n+if Desk.ofB name es[k] then Desk.a0r es[k].a0e t*es[k].a0c else 0):=by
      show n+_=n+_;rw[ho.out];rfl
     generalize Desk.a0r es[k].a0e t=q at *
     go_wp2_with fail
     refine (TM.out _ ((zr _ _).alloc (zq _) _)).mono ?_;rintro e w' ⟨rfl,rfl⟩;clear TM
     go_wp2_with fail
     go_roundw
     case rel=>exact⟨k+1,by omega,by go_num,by rw[EE.out,<- EN.out],a0j HB.out ((zr _ _).alloc (zq _) _) (zq _)⟩
     case measure=>simp[intOf];omega
  ·have e:es.take k=es:=List.take_of_length_le (by omega);have hi:¬ (k:Int)<(es.length:Int):=by omega
   have HB:=a0b hb;clear hb hx
   go_wp2_with fail
   go_ret;exact⟨a1L (by first|rfl|rw[e]),HB.out⟩
theorem b1S:(Tryz.prog.info? 3).map (fun i=>(i.zero,i.size,i.bytes))=some (some (.int .i64 0),1,8):=by kernel_rfl
theorem d0G{base size:Nat}{xs:List Value}(h:w.ownsRow base e size v n xs){k:Nat}(hk:v.ownBlock=some k):base<=k:=by
 rcases h.2 with ⟨rfl,_⟩|⟨g,cap,cur,rfl,hb,_⟩
 ·simp[Value.ownBlock] at hk
 ·simp[Value.ownBlock] at hk;omega
theorem d7F{base base' size:Nat}{xs:List Value}(h:w.ownsRow base e size v n xs)(hb:base'<=base):w.ownsRow base' e size v n xs:=by
 refine⟨h.1,?_⟩;rcases h.2 with h0|⟨g,cap,cur,hv,hg,rest⟩
 ·exact .inl h0
 ·exact .inr ⟨g,cap,cur,hv,Nat.le_trans hb hg,rest⟩
theorem a1g{base size:Nat}{xs:List Value}(h:w.ownsRow base e size v n xs)(hb:Below w.heap.size w w'):w'.ownsRow base e size v n xs:=by
 refine⟨h.1,?_⟩;rcases h.2 with h0|⟨g,cap,cur,hv,hg,hh,rest⟩
 ·exact .inl h0
 ·refine .inr ⟨g,cap,cur,hv,hg,?_,rest⟩
  have hlt:g<w.heap.size:=by
   by_cases hx:g<w.heap.size
   ·exact hx
   ·rw[Array.getElem?_eq_none (by omega)] at hh;cases hh
  rw[hb.block g hlt];exact hh
theorem a0p(w:World)(o:Obj):(w.alloc o).heap[w.heap.size]?=some o:=heap_alloc_new w o
theorem c8L{base size:Nat}{xs:List Value}(h:w.ownsRow base e size v n xs){cs:Array Value}{t:TypeId}{m:Nat × Nat}(hb:w.heap[b]?=some (.cells cs t m))(hne:t≠e):v.ownBlock≠some b:=by
 intro hk;rcases h.2 with ⟨rfl,_⟩|⟨g,cap,cur,rfl,hg,hh,_⟩
 ·simp[Value.ownBlock] at hk
 ·simp[Value.ownBlock] at hk;subst hk;rw[hb] at hh;simp at hh;exact hne hh.2.1
theorem e1E{base:Nat}{xs:List Int}(h:w.ownsRow base 3 1 v n (xs.map (Value.int .i64))):∃ a cap g,v=.slice a n cap/\n=xs.length/\(xs≠[]->a=some ⟨g,0,none⟩)/\∀ (i:Nat)(hi:i<xs.length),w.cell? ⟨g,i,none⟩=some (.int .i64 xs[i]):=by
 have hl:=h.1;simp at hl;rcases h.2 with ⟨rfl,h0⟩|⟨g,cap,cur,rfl,hg,hh,h1,h2,h3,h4⟩
 ·subst h0;have:xs=[]:=List.length_eq_zero_iff.1 hl;subst this;exact⟨none,0,0,rfl,rfl,fun h=>absurd rfl h,fun i hi=>by simp at hi⟩
 ·refine⟨some ⟨g,0,none⟩,cap,g,rfl,hl.symm,fun _=>rfl,fun i hi=>?_⟩;have e:(cur.toList.take (n*1))[i]?=(xs.map (Value.int .i64))[i]?:=by rw[h4]
  rw[List.getElem?_map,List.getElem?_eq_getElem hi,List.getElem?_take_of_lt (by omega)] at e;simp only[Array.getElem?_toList,Option.map_some] at e;simp[World.cell?,hh,e]
def f9l(e:Desk.Ent)(B cap:Nat):Array Value:=#[.int .i64 e.id,.int .i64 e.kind,.string e.a0k,.int .i64 e.a0c,.slice (some ⟨B,0,none⟩) e.a0e.length cap,.int .i64 e.a0Z]
def d0d(name:ByteArray)(l:List Desk.Ent)(e:Desk.Ent)(j:Nat):List Int:=Desk.a2L name l++(e.a0e.take j).map (·.1)
theorem d4X(name:ByteArray)(l:List Desk.Ent)(h:∀ e∈l,Desk.Small e):(Desk.a2L name l).length<=100*l.length:=by
 induction l with
 |nil=>simp[Desk.a2L]
 |cons e l ih =>
  have i:=ih (fun x hx=>h x (by simp[hx]));have s:=(h e (by simp)).sl;simp only[Desk.a2L,List.length_append,List.length_cons]
  split <;> simp <;> omega
theorem e0b(d:Nat)(a:Option Addr)(cap E:Nat)(es:List Desk.Ent)(name:ByteArray)(w:World)(h:RDE w d a cap E es)(hl:es.length<=1000)(hs:∀ e∈es,Desk.Small e):
  Calls Tryz.prog 240 #[.pointer (some ⟨d,0,none⟩),.string name] w fun e w'=>∃ v,e=.returned v/\w'.ownsRow w.heap.size 3 1 v (Desk.a2L name es).length ((Desk.a2L name es).map (Value.int .i64))/\Below w.heap.size w w':=by
 obtain⟨i0,hi0,hz0,hz1,hz2⟩:=info_parts b1S;have H:=a0b h;have HS:=a0b hs;clear h hs
 go_enter Tryz.func240,Tryz.ntmps240
 go_wp2_with fail
 go_loopw [5,6,7,8] (fun v i _ _ wx=>∃ k:Nat,k<=es.length/\i=.int .i64 k/\wx.ownsRow w.heap.size 3 1 v (Desk.a2L name (es.take k)).length ((Desk.a2L name (es.take k)).map (Value.int .i64))/\Below w.heap.size w wx) (fun _ i _ _ _=>es.length-(intOf i).toNat)
 case atStart=>exact⟨0,Nat.zero_le _,rfl,World.ownsRow_nil _ _ _ _,Below.refl _ _⟩
 case round =>
  obtain⟨k,hk,rfl,hown,hb⟩:=hrel;have bl:=List.length_take_le k es;have hx:=H.out.later hb;have cc:=hx.c;have sz:=d4X name (es.take k) (fun e he=>HS.out e (List.mem_of_mem_take he))
  by_cases hlt:k<es.length
  ·obtain rfl:=H.out.at hlt;obtain⟨B,cp,hr0⟩:=H.out.r k hlt;have hr:=hr0.later hb;have hsm:=HS.out es[k] (zg hlt);have c0:=hr.c0;have c1:=hr.c1;have c2:=hr.c2;have c3:=hr.c3;have c4:=hr.c4;have c5:=hr.c5;have hi:(k:Int)<(es.length:Int):=by omega
   have e:Desk.a2L name (es.take (k+1))=Desk.a2L name (es.take k)++(if Desk.a0y es[k].a0k name then es[k].a0e.map (·.1) else []):=by
    rw[List.take_succ_eq_append_getElem hlt,Desk.d9J];simp[Desk.a2L]
   have EE:=a0b e;have sl:=hsm.sl;have RS:=a0b hr0.sl;have HB:=a0b hb;have hbs:=hb.size;have HO:=a0b hown;clear e hr hr0 hx hsm hown hb
   go_wp2_with fail
   have hX:(wr.alloc (.cells (f9l es[k] B cp) 58)).heap[wr.heap.size]?=some (.cells (f9l es[k] B cp) 58):=a0p _ _;have oX:(wr.alloc (.cells (f9l es[k] B cp) 58)).ownsRow w.heap.size 3 1 u5 (Desk.a2L name (es.take k)).length ((Desk.a2L name (es.take k)).map (Value.int .i64)):=a1g HO.out ((zr _ _).alloc (zq _) _);have bX:Below w.heap.size w (wr.alloc (.cells (f9l es[k] B cp) 58)):=a0j HB.out ((zr _ _).alloc (zq _) _) (zq _);simp only[f9l] at hX oX bX;have HX:=a0b (And.intro hX (And.intro oX bX));clear hX oX bX c0 c1 c2 c3 c4 c5 cc HB HO;generalize (World.alloc wr _)=X at HX ⊢;generalize wr.heap.size=bx at HX hbs ⊢;have hq:∃ q,Desk.a0y es[k].a0k name=q:=⟨_,rfl⟩;obtain⟨q,hq⟩:=hq;have hq':(es[k].a0k.toList==name.toList)=q:=hq;have HQ:=a0b hq;clear hq
   go_loopw [5,8] (fun v i wx=>∃ j:Nat,j<=es[k].a0e.length/\(q=false->j=0)/\i=.int .i64 j/\wx.ownsRow w.heap.size 3 1 v (d0d name (es.take k) es[k] j).length ((d0d name (es.take k) es[k] j).map (Value.int .i64))/\Below w.heap.size w wx/\wx.heap[bx]?=some (.cells (f9l es[k] B cp) 58)) (fun _ i _=>es[k].a0e.length-(intOf i).toNat)
   case atStart=>exact⟨0,Nat.zero_le _,fun _=>rfl,rfl,by rw[d0d];simpa using HX.out.2.1,HX.out.2.2,HX.out.1⟩
   case round =>
    obtain⟨j,hj,hj0,rfl,hown,hb,hbx⟩:=hrel;have b4:wr.cell? ⟨bx,4,none⟩=some (.slice (some ⟨B,0,none⟩) es[k].a0e.length cp):=by simp[World.cell?,hbx,f9l]
    have b2:wr.cell? ⟨bx,2,none⟩=some (.string es[k].a0k):=by simp[World.cell?,hbx,f9l]
    have HOB:=a0b (And.intro hown (And.intro hb hbx));have hbs2:=hb.size
    by_cases hgo:q=true/\j<es[k].a0e.length
    ·obtain⟨rfl,hjl⟩:=hgo;have r1:=(RS.out.later hb j hjl).1;have hi2:(j:Int)<(es[k].a0e.length:Int):=by omega
     have es1:d0d name (es.take k) es[k] (j+1)=d0d name (es.take k) es[k] j++[es[k].a0e[j].1]:=by
      unfold d0d;rw[List.take_succ_eq_append_getElem hjl,List.map_append,List.append_assoc];rfl
     have ES:=a0b es1
     have eln:(d0d name (es.take k) es[k] j).length<=100*k+100:=by
      unfold d0d;have:=List.length_take_le j es[k].a0e;simp only[List.length_append,List.length_map];omega
     have hne:=c8L hown hbx (by decide);have HNE:=a0b hne;clear es1 hb hbx hne hj0
     go_wp2_with (first
      |(at_builtin;refine wpList_append_own _ rfl _ _ 38 rfl w.heap.size 3 i0 (.int .i64 0) 1 8 Tryz.underlying38 hi0 hz0 hz1 hz2 rfl (by decide) _ _ _ rfl (hown.alloc _) ⟨wr.heap.size,0,none⟩ 1 1 [.int .i64 es[k].a0e[j].1] rfl rfl ?c1 ?c2 ?c3 ?c4 ?c5 ?_))
     case c1=>exact World.news_of_block (cs:=#[.int .i64 es[k].a0e[j].1]) (a0p wr _)
     case c2=>simp[Value.oneCell']
     case c3=>unfold maxLen;omega
     case c4=>omega
     case c5=>simp;omega
     intro v' w' hown' hgrow _;have hb':Below w.heap.size w w':=(HOB.out.2.1.alloc hbs2 _).grown hgrow (by simp;omega) (fun k hk=>d0G HOB.out.1 hk)
     have hbx':w'.heap[bx]?=some (.cells (f9l es[k] B cp) 58):=by
      have l1:bx<wr.heap.size:=by
       by_cases hx:bx<wr.heap.size
       ·exact hx
       ·have:=HOB.out.2.2;rw[Array.getElem?_eq_none (by omega)] at this;cases this
      rw[hgrow.block bx (by simp;omega) (fun e=>HNE.out e.symm)];exact (Below.heap_alloc wr _ bx l1).trans HOB.out.2.2
     have HK:Hid (w'.ownsRow w.heap.size 3 1 v' (d0d name (es.take k) es[k] (j+1)).length ((d0d name (es.take k) es[k] (j+1)).map (Value.int .i64))):=by
      show w'.ownsRow _ _ _ _ _ _;rw[ES.out,List.map_append,List.length_append];exact hown'
     have HB2:=a0b (And.intro hb' hbx');clear hown' hgrow hb' hbx' hown HOB HNE r1 b4 b2
     go_wp2_with fail
     go_roundw
     case rel=>exact⟨j+1,by omega,fun e=>(by cases e),by go_num,HK.out,HB2.out.1,HB2.out.2⟩
     case measure=>simp[intOf];omega
    ·have hfin:d0d name (es.take k) es[k] j=Desk.a2L name (es.take (k+1)):=by
      rw[EE.out,d0d,HQ.out]
      cases q with
      |false=>rw[hj0 rfl];simp
      |true =>
       have:es[k].a0e.take j=es[k].a0e:=List.take_of_length_le (by have:¬ j<es[k].a0e.length:=fun h=>hgo ⟨rfl,h⟩;omega);rw[this];rfl
     have HK:Hid (wr.ownsRow w.heap.size 3 1 u5 (Desk.a2L name (es.take (k+1))).length ((Desk.a2L name (es.take (k+1))).map (Value.int .i64))):=by
      show wr.ownsRow _ _ _ _ _ _;rw[<- hfin];exact hown
     clear hown hb hbx hfin
     have hcase:q=false\/(q=true/\¬ (j:Int)<(es[k].a0e.length:Int)):=by
      cases q with
      |false=>exact .inl rfl
      |true=>exact .inr ⟨rfl,fun h=>hgo ⟨rfl,by omega⟩⟩
     clear hgo;rcases hcase with rfl|⟨rfl,hi2⟩
     ·obtain rfl:=hj0 rfl;clear hj0
      by_cases hz:(0:Int)<(es[k].a0e.length:Int)
      all_goals
       go_wp2_with fail
       go_roundw
       case rel=>exact⟨k+1,by omega,by go_num,HK.out,HOB.out.2.1⟩
       case measure=>simp[intOf];omega
     ·clear hj0
      go_wp2_with fail
      go_roundw
      case rel=>exact⟨k+1,by omega,by go_num,HK.out,HOB.out.2.1⟩
      case measure=>simp[intOf];omega
  ·have e:es.take k=es:=List.take_of_length_le (by omega);have hi:¬ (k:Int)<(es.length:Int):=by omega
   rw[e] at hown;have HB:=a0b (And.intro hown hb);clear hb hx hown
   go_wp2_with fail
   go_ret;exact⟨_,rfl,HB.out.1,HB.out.2⟩
namespace Desk
def a0h(name:ByteArray):List (ByteArray × Int)->Int
 |[]=>0
 |t :: r=>if a0y t.1 name then t.2 else a0h name r
def c4T(most:Int)(name:ByteArray)(a0c:Int)(L:List (Int × Int))(es:List Ent)(x:Int):Bool:=decide (0<a0r L x) && decide (most<a0o name x es+a0r L x*a0c)
def c4e(most:Int)(name:ByteArray)(a0c:Int)(L:List (Int × Int))(es:List Ent)(l:List Int):Bool:=l.all fun x=>!c4T most name a0c L es x
def a1e(ts:List (ByteArray × Int))(es:List Ent)(name:ByteArray)(a0c:Int)(L:List (Int × Int)):Bool:=c4e (a0h name ts) name a0c L es (a2L name es++L.map (·.1))
end Desk
structure RDT(w:World)(d:Nat)(a:Option Addr)(cap G:Nat)(ts:List (ByteArray × Int)):Prop where
 c:w.cell? ⟨d,0,none⟩=some (.slice a ts.length cap)
 a:ts≠[]->a=some ⟨G,0,none⟩
 r:∀ (i:Nat) (h:i<ts.length),w.cell? ⟨G,i*2,none⟩=some (.string ts[i].1)/\w.cell? ⟨G,i*2+1,none⟩=some (.int .i64 ts[i].2)
theorem RDT.later{G:Nat}(h:RDT w d a cap G ts)(k:Below w.heap.size w w'):RDT w' d a cap G ts :=
 ⟨a0a k h.c,h.a,fun i hi=>⟨a0a k (h.r i hi).1,a0a k (h.r i hi).2⟩⟩
theorem RDT.at{G:Nat}(h:RDT w d a cap G ts)(hi:i<ts.length):a=some ⟨G,0,none⟩:=h.a (by intro e;simp[e] at hi)
theorem d7R(d:Nat)(a:Option Addr)(cap G:Nat)(ts:List (ByteArray × Int))(name:ByteArray)(w:World)(h:RDT w d a cap G ts)(hl:ts.length<=1000):
  Calls Tryz.prog 229 #[.pointer (some ⟨d,0,none⟩),.string name] w fun e w'=>e=.returned (.int .i64 (Desk.a0h name ts))/\w'=w:=by
 have H:=a0b h;have cc:=h.c;clear h
 go_enter Tryz.func229,Tryz.ntmps229
 go_wp2_with fail
 go_loop [5] (fun i=>∃ k:Nat,k<=ts.length/\i=.int .i64 k/\Desk.a0h name ts=Desk.a0h name (ts.drop k)) (fun i=>ts.length-(intOf i).toNat)
 case atStart=>exact⟨0,Nat.zero_le _,rfl,rfl⟩
 case round =>
  obtain⟨k,hk,rfl,hu⟩:=hrel;have HU:=a0b hu;clear hu
  by_cases hlt:k<ts.length
  ·obtain rfl:=H.out.at hlt;obtain⟨c0,c1⟩:=H.out.r k hlt;have hi:(k:Int)<(ts.length:Int):=by omega
   have ed:Desk.a0h name (ts.drop k)=if Desk.a0y ts[k].1 name then ts[k].2 else Desk.a0h name (ts.drop (k+1)):=by rw[List.drop_eq_getElem_cons hlt];rfl
   have ED:=a0b ed;clear ed
   cases hq:Desk.a0y ts[k].1 name
   ·have hq':(ts[k].1.toList==name.toList)=false:=hq;have HN:Hid (Desk.a0h name ts=Desk.a0h name (ts.drop (k+1))):=by show Desk.a0h name ts=_;rw[HU.out,ED.out,hq];rfl
    clear hq
    go_wp2_with fail
    go_round
    case rel=>exact⟨k+1,by omega,by go_num,HN.out⟩
    case measure=>simp[intOf];omega
   ·have hq':(ts[k].1.toList==name.toList)=true:=hq;have HN:Hid (Desk.a0h name ts=ts[k].2):=by show Desk.a0h name ts=_;rw[HU.out,ED.out,hq];rfl
    clear hq
    go_wp2_with fail
    go_ret;exact⟨a1L HN.out.symm,rfl⟩
  ·have e:ts.drop k=[]:=List.drop_eq_nil_of_le (by omega);have HN:Hid (Desk.a0h name ts=0):=by show Desk.a0h name ts=0;rw[HU.out,e];rfl
   have hi:¬ (k:Int)<(ts.length:Int):=by omega
   clear e
   go_wp2_with fail
   go_ret;exact⟨a1L HN.out.symm,rfl⟩
theorem f0u(d:Nat)(a:Option Addr)(cap E:Nat)(es:List Desk.Ent)(at_:Option Addr)(ct G:Nat)(ts:List (ByteArray × Int))(name:ByteArray)(a0c:Int)(B cb:Nat)(L:List (Int × Int))(w:World)(h:RDE w d a cap E es)(ht:RDT w d at_ ct G ts)(hL:RSL w B L)(hl:es.length<=1000)(htl:ts.length<=1000)(hs:∀ e∈es,Desk.Small e)(hll:L.length<=100)(hu0:0<=a0c)(hu1:a0c<=9):
  Calls Tryz.prog 182 #[.pointer (some ⟨d,0,none⟩),.string name,.int .i64 a0c,.slice (some ⟨B,0,none⟩) L.length cb] w fun e w'=>e=.returned (.bool (Desk.a1e ts es name a0c L))/\Below w.heap.size w w':=by
 obtain⟨i0,hi0,hz0,hz1,hz2⟩:=info_parts b1S;have ST:=a0b (e0b d a cap E es name w h hl hs);have UN:=a0b (fun w' (k:Below w.heap.size w w')=>d7R d at_ ct G ts name w' (ht.later k) htl);have TM:=a0b (fun t w' (k:Below w.heap.size w w')=>e3i B cb L t w' (hL.later k) (by omega));have TK:=a0b (fun t w' (k:Below w.heap.size w w')=>e3v d a cap E es name t w' (h.later k) hl hs);have sz:=d4X name es hs;have HL:=a0b hL;have HBD:=a0b (fun t=>Desk.e3w name t es hs);have hfit:Desk.a1e ts es name a0c L=Desk.c4e (Desk.a0h name ts) name a0c L es (Desk.a2L name es++L.map (·.1)):=rfl;rw[hfit];obtain⟨l,hl2⟩:∃ l,Desk.a2L name es++L.map (·.1)=l:=⟨_,rfl⟩
 have eln2:l.length<=100100:=by
  rw[<- hl2];simp only[List.length_append,List.length_map];omega
 rw[hl2];have HL2:=a0b hl2;generalize Desk.a0h name ts=most at *;clear h ht hs hL hfit hl2
 go_enter Tryz.func182,Tryz.ntmps182
 go_wp2_with fail
 refine ST.out.mono ?_;rintro e w1 ⟨v1,rfl,ho1,hb1⟩;have O1:=a0b (And.intro ho1 hb1);clear ST ho1 hb1
 go_wp2_with fail
 go_loopw [9,10] (fun v i wx=>∃ k:Nat,k<=L.length/\i=.int .i64 k/\wx.ownsRow w.heap.size 3 1 v (Desk.a2L name es++(L.take k).map (·.1)).length ((Desk.a2L name es++(L.take k).map (·.1)).map (Value.int .i64))/\Below w.heap.size w wx) (fun _ i _=>L.length-(intOf i).toNat)
 case atStart=>exact⟨0,Nat.zero_le _,rfl,by simpa using O1.out.1,O1.out.2⟩
 case round =>
  obtain⟨k,hk,rfl,hown,hb⟩:=hrel;have HOB:=a0b (And.intro hown hb);have hbs:=hb.size
  by_cases hlt:k<L.length
  ·have r1:=(HL.out.later hb k hlt).1;have hi2:(k:Int)<(L.length:Int):=by omega
   have es1:Desk.a2L name es++(L.take (k+1)).map (·.1)=(Desk.a2L name es++(L.take k).map (·.1))++[L[k].1]:=by
    rw[List.take_succ_eq_append_getElem hlt,List.map_append,List.append_assoc];rfl
   have ES:=a0b es1
   have eln:(Desk.a2L name es++(L.take k).map (·.1)).length<=100100:=by
    have:=List.length_take_le k L;simp only[List.length_append,List.length_map];omega
   clear es1 hb
   go_wp2_with (first
    |(at_builtin;refine wpList_append_own _ rfl _ _ 38 rfl w.heap.size 3 i0 (.int .i64 0) 1 8 Tryz.underlying38 hi0 hz0 hz1 hz2 rfl (by decide) _ _ _ rfl (hown.alloc _) ⟨wr.heap.size,0,none⟩ 1 1 [.int .i64 L[k].1] rfl rfl (World.news_of_block (cs:=#[.int .i64 L[k].1]) (a0p wr _)) (by simp[Value.oneCell']) (by unfold maxLen;omega) (by omega) (by simp;omega) ?_;intro v' w' hown' hgrow _))
   have hb':Below w.heap.size w w':=(HOB.out.2.alloc hbs _).grown hgrow (by simp;omega) (fun k hk=>d0G HOB.out.1 hk)
   have HK:Hid (w'.ownsRow w.heap.size 3 1 v' (Desk.a2L name es++(L.take (k+1)).map (·.1)).length ((Desk.a2L name es++(L.take (k+1)).map (·.1)).map (Value.int .i64))):=by
    show w'.ownsRow _ _ _ _ _ _;rw[ES.out,List.map_append,List.length_append];exact hown'
   have HB2:=a0b hb';clear hown' hgrow hb' hown HOB r1
   go_wp2_with fail
   go_roundw
   case rel=>exact⟨k+1,by omega,by go_num,HK.out,HB2.out⟩
   case measure=>simp[intOf];omega
  ·have e:L.take k=L:=List.take_of_length_le (by omega);have hi2:¬ (k:Int)<(L.length:Int):=by omega
   rw[e,HL2.out] at hown;obtain⟨a2,c2,g2,rfl,hn2,ha2,hr2⟩:=e1E hown;have R2:=a0b (And.intro ha2 (And.intro hr2 hb));clear hown hb e HOB ha2 hr2 hn2 O1 HL2
   go_wp2_with fail
   refine (UN.out _ R2.out.2.2).mono ?_;rintro e w2 ⟨rfl,rfl⟩;clear UN
   go_wp2_with fail
   go_loopw [12,13] (fun i _ wx=>∃ j:Nat,j<=l.length/\i=.int .i64 j/\Desk.c4e most name a0c L es (l.take j)=true/\Below w2.heap.size w2 wx) (fun i _ _=>l.length-(intOf i).toNat)
   case atStart=>exact⟨0,Nat.zero_le _,rfl,by simp[Desk.c4e],Below.refl _ _⟩
   case round =>
    obtain⟨j,hj,rfl,hf,hb⟩:=hrel;have HF:=a0b hf;have hbw:=a0j R2.out.2.2 hb (zq _);have HBW:=a0b hbw;have HB:=a0b hb;clear hf hbw
    by_cases hjl:j<l.length
    ·obtain rfl:=R2.out.1 (by intro e;simp[e] at hjl);have c0:=a0a hb (R2.out.2.1 j hjl);have hi2:(j:Int)<(l.length:Int):=by omega
     have hst:Desk.c4e most name a0c L es (l.take (j+1))=(Desk.c4e most name a0c L es (l.take j) && !Desk.c4T most name a0c L es l[j]):=by
      unfold Desk.c4e;rw[List.take_succ_eq_append_getElem hjl,List.all_append];simp
     have HST:=a0b hst;have TM1:=a0b (TM.out l[j]);have TK1:=a0b (TK.out l[j]);have bd1:=Desk.a4Q L l[j];have bd2:=HBD.out l[j]
     have hall:Hid (Desk.c4T most name a0c L es l[j]=true->Desk.c4e most name a0c L es l=false):=by
      intro ho;unfold Desk.c4e;rw[List.all_eq_false];exact⟨l[j],List.getElem_mem hjl,by simp[ho]⟩
     have hover:Desk.c4T most name a0c L es l[j]=(decide (0<Desk.a0r L l[j]) && decide (most<Desk.a0o name l[j] es+Desk.a0r L l[j]*a0c)):=rfl;have m0:0<=Desk.a0r L l[j]*a0c:=Int.mul_nonneg bd1.1 hu0;have m1:Desk.a0r L l[j]*a0c<=900:=by have:Desk.a0r L l[j]*a0c<=100*9:=Int.mul_le_mul (by omega) hu1 hu0 (by omega);omega
     generalize Desk.a0r L l[j]=n at *;generalize Desk.a0o name l[j] es=tk at *;have HOV:=a0b hover;clear hst hover hb
     by_cases hn:0<n
     ·by_cases hm:most<tk+n*a0c
      ·have HO:Hid (Desk.c4T most name a0c L es l[j]=true):=by show _=true;rw[HOV.out];simp[hn,hm]
       go_wp2_with fail
       refine (TM1.out _ HBW.out).mono ?_;rintro e w3 ⟨rfl,rfl⟩
       go_wp2_with fail
       refine (TK1.out _ HBW.out).mono ?_;rintro e w4 ⟨rfl,hb4⟩;have HB4:=a0b (a0j HBW.out hb4 (zq _));clear hb4 TM1 TK1 TM TK
       go_wp2_with fail
       go_ret;exact⟨a2C (hall.out HO.out).symm,HB4.out⟩
      ·have HO:Hid (Desk.c4T most name a0c L es l[j]=false):=by show _=false;rw[HOV.out];simp[hm]
       go_wp2_with fail
       refine (TM1.out _ HBW.out).mono ?_;rintro e w3 ⟨rfl,rfl⟩
       go_wp2_with fail
       refine (TK1.out _ HBW.out).mono ?_;rintro e w4 ⟨rfl,hb4⟩;have HB4:=a0b (a0j HB.out hb4 (zq _));clear hb4 TM1 TK1 TM TK
       go_wp2_with fail
       go_roundw
       case rel=>exact⟨j+1,by omega,by go_num,by rw[HST.out,HF.out,HO.out];rfl,HB4.out⟩
       case measure=>simp[intOf];omega
     ·have HO:Hid (Desk.c4T most name a0c L es l[j]=false):=by show _=false;rw[HOV.out];simp[hn]
      go_wp2_with fail
      refine (TM1.out _ HBW.out).mono ?_;rintro e w3 ⟨rfl,rfl⟩;clear TM1 TK1 TM TK
      go_wp2_with fail
      go_roundw
      case rel=>exact⟨j+1,by omega,by go_num,by rw[HST.out,HF.out,HO.out];rfl,HB.out⟩
      case measure=>simp[intOf];omega
    ·have e:l.take j=l:=List.take_of_length_le (by omega);have hi2:¬ (j:Int)<(l.length:Int):=by omega
     rw[e] at HF;clear e hb
     go_wp2_with fail
     go_ret;exact⟨a2C HF.out.symm,HBW.out⟩
namespace Desk
def d0u(id:Int):List Ent->Int->Int
 |[],_=>-1
 |e :: r,i=>if e.id=id then i else d0u id r (i+1)
def a1Y(es:List Ent):Int:=((es.filter fun e=>e.kind==3).length:Int)
def a0S(ts:List (ByteArray × Int))(name:ByteArray)(a0c:Int):Int:=if a0h name ts=0 then 3 else if a0h name ts<a0c then 7 else 0
end Desk
def c7a(x:Desk.Ent × Nat × Nat):List Value:=[.int .i64 x.1.id,.int .i64 x.1.kind,.string x.1.a0k,.int .i64 x.1.a0c,.slice (some ⟨x.2.1,0,none⟩) x.1.a0e.length x.2.2,.int .i64 x.1.a0Z]
structure RDX(w:World)(d:Nat)(a:Option Addr)(cap E:Nat)(xs:List (Desk.Ent × Nat × Nat)):Prop where
 c:w.cell? ⟨d,1,none⟩=some (.slice a xs.length cap)
 a:xs≠[]->a=some ⟨E,0,none⟩
 r:∀ (i:Nat) (h:i<xs.length),RE w E i xs[i].1 xs[i].2.1 xs[i].2.2
theorem RDX.de{xs:List (Desk.Ent × Nat × Nat)}(h:RDX w d a cap E xs):RDE w d a cap E (xs.map (·.1)) :=
 ⟨by rw[List.length_map];exact h.c,fun hn=>h.a (by intro e;simp[e] at hn),fun i hi=>by
  have hi':i<xs.length:=by simpa using hi
  exact⟨xs[i].2.1,xs[i].2.2,by simpa using h.r i hi'⟩⟩
theorem RDX.later{xs:List (Desk.Ent × Nat × Nat)}(h:RDX w d a cap E xs)(k:Below w.heap.size w w'):RDX w' d a cap E xs:=⟨a0a k h.c,h.a,fun i hi=>(h.r i hi).later k⟩
theorem RDX.at{xs:List (Desk.Ent × Nat × Nat)}(h:RDX w d a cap E xs)(hi:i<xs.length):a=some ⟨E,0,none⟩:=h.a (by intro e;simp[e] at hi)
theorem f4h(d:Nat)(a:Option Addr)(cap E:Nat)(es:List Desk.Ent)(id:Int)(w:World)(h:RDE w d a cap E es)(hl:es.length<=1000):
  Calls Tryz.prog 233 #[.pointer (some ⟨d,0,none⟩),.int .i64 id] w fun e w'=>e=.returned (.int .i64 (Desk.d0u id es 0))/\w'=w:=by
 have H:=a0b h;have cc:=h.c;clear h
 go_enter Tryz.func233,Tryz.ntmps233
 go_wp2_with fail
 go_loop [5] (fun i=>∃ k:Nat,k<=es.length/\i=.int .i64 k/\Desk.d0u id es 0=Desk.d0u id (es.drop k) k) (fun i=>es.length-(intOf i).toNat)
 case atStart=>exact⟨0,Nat.zero_le _,rfl,rfl⟩
 case round =>
  obtain⟨k,hk,rfl,hu⟩:=hrel;have HU:=a0b hu;clear hu
  by_cases hlt:k<es.length
  ·obtain rfl:=H.out.at hlt;obtain⟨B,cp,hr⟩:=H.out.r k hlt;have c0:=hr.c0;have hi:(k:Int)<(es.length:Int):=by omega
   have ed:Desk.d0u id (es.drop k) k=if es[k].id=id then (k:Int) else Desk.d0u id (es.drop (k+1)) (k+1):=by rw[List.drop_eq_getElem_cons hlt];rfl
   have ED:=a0b ed;clear ed hr
   by_cases hq:es[k].id=id
   ·have hq':(es[k].id==id)=true:=by simp[hq]
    have HN:Hid (Desk.d0u id es 0=k):=by show Desk.d0u id es 0=k;rw[HU.out,ED.out,if_pos hq]
    clear hq
    go_wp2_with fail
    go_ret;exact⟨a1L HN.out.symm,rfl⟩
   ·have hq':(es[k].id==id)=false:=by simp[hq]
    have HN:Hid (Desk.d0u id es 0=Desk.d0u id (es.drop (k+1)) ((k+1:Nat):Int)):=by show Desk.d0u id es 0=_;rw[HU.out,ED.out,if_neg hq];rfl
    clear hq
    go_wp2_with fail
    go_round
    case rel=>exact⟨k+1,by omega,by go_num,HN.out⟩
    case measure=>simp[intOf];omega
  ·have e:es.drop k=[]:=List.drop_eq_nil_of_le (by omega);have HN:Hid (Desk.d0u id es 0=-1):=by show Desk.d0u id es 0=-1;rw[HU.out,e];rfl
   have hi:¬ (k:Int)<(es.length:Int):=by omega
   clear e
   go_wp2_with fail
   go_ret;exact⟨a1L HN.out.symm,rfl⟩
theorem e5Y(d:Nat)(a:Option Addr)(cap E:Nat)(es:List Desk.Ent)(w:World)(h:RDE w d a cap E es)(hl:es.length<=1000):
  Calls Tryz.prog 231 #[.pointer (some ⟨d,0,none⟩)] w fun e w'=>e=.returned (.int .i64 (Desk.a1Y es))/\w'=w:=by
 have H:=a0b h;have cc:=h.c;clear h
 go_enter Tryz.func231,Tryz.ntmps231
 go_wp2_with fail
 go_loop [3,4] (fun n i=>∃ k:Nat,k<=es.length/\i=.int .i64 k/\n=.int .i64 (Desk.a1Y (es.take k))) (fun _ i=>es.length-(intOf i).toNat)
 case atStart=>exact⟨0,Nat.zero_le _,rfl,rfl⟩
 case round =>
  obtain⟨k,hk,rfl,rfl⟩:=hrel
  have bd:0<=Desk.a1Y (es.take k)/\Desk.a1Y (es.take k)<=k:=by
   unfold Desk.a1Y;have:=List.length_filter_le (fun e:Desk.Ent=>e.kind==3) (es.take k);have:=List.length_take_le k es;omega
  by_cases hlt:k<es.length
  ·obtain rfl:=H.out.at hlt;obtain⟨B,cp,hr⟩:=H.out.r k hlt;have c1:=hr.c1;have hi:(k:Int)<(es.length:Int):=by omega
   have ed:Desk.a1Y (es.take (k+1))=Desk.a1Y (es.take k)+if es[k].kind==3 then 1 else 0:=by
    unfold Desk.a1Y;rw[List.take_succ_eq_append_getElem hlt,List.filter_append,List.length_append]
    cases hq:(es[k].kind==3) <;> simp[hq]
   have ED:=a0b ed;clear ed hr;generalize Desk.a1Y (es.take k)=n at *
   cases hq:(es[k].kind==3)
   ·have HN:Hid (Desk.a1Y (es.take (k+1))=n):=by show _=n;rw[ED.out,hq];simp
    go_wp2_with fail
    go_round
    case rel=>exact⟨k+1,by omega,by go_num,by rw[HN.out]⟩
    case measure=>simp[intOf];omega
   ·have HN:Hid (Desk.a1Y (es.take (k+1))=n+1):=by show _=n+1;rw[ED.out,hq];simp
    go_wp2_with fail
    go_round
    case rel=>exact⟨k+1,by omega,by go_num,by rw[HN.out]⟩
    case measure=>simp[intOf];omega
  ·have e:es.take k=es:=List.take_of_length_le (by omega);have hi:¬ (k:Int)<(es.length:Int):=by omega
   go_wp2_with fail
   go_ret;exact⟨a1L (by first|rfl|rw[e]),rfl⟩
theorem f1o(d:Nat)(a:Option Addr)(cap G:Nat)(ts:List (ByteArray × Int))(name:ByteArray)(a0c:Int)(w:World)(h:RDT w d a cap G ts)(hl:ts.length<=1000):
  Calls Tryz.prog 230 #[.pointer (some ⟨d,0,none⟩),.string name,.int .i64 a0c] w fun e w'=>e=.returned (.int .i64 (Desk.a0S ts name a0c))/\w'=w:=by
 have UN:=a0b (d7R d a cap G ts name w h hl);have HA:Hid (Desk.a0S ts name a0c=if Desk.a0h name ts=0 then 3 else if Desk.a0h name ts<a0c then 7 else 0):=rfl;generalize Desk.a0h name ts=n at *;generalize Desk.a0S ts name a0c=r at *;clear h
 by_cases h0:n=0
 ·have hr:Hid (r=3):=by show r=3;rw[HA.out,if_pos h0]
  have h0':(n==0)=true:=by simp[h0]
  clear h0 HA
  go_enter Tryz.func230,Tryz.ntmps230
  go_wp2_with fail
  refine UN.out.mono ?_;rintro e w1 ⟨rfl,rfl⟩
  go_wp2_with fail
  go_ret;exact⟨a1L hr.out.symm,rfl⟩
 ·have h0':(n==0)=false:=by simp[h0]
  by_cases h1:n<a0c
  ·have hr:Hid (r=7):=by show r=7;rw[HA.out,if_neg h0,if_pos h1]
   clear h0 HA
   go_enter Tryz.func230,Tryz.ntmps230
   go_wp2_with fail
   refine UN.out.mono ?_;rintro e w1 ⟨rfl,rfl⟩
   go_wp2_with fail
   go_ret;exact⟨a1L hr.out.symm,rfl⟩
  ·have hr:Hid (r=0):=by show r=0;rw[HA.out,if_neg h0,if_neg h1]
   clear h0 HA
   go_enter Tryz.func230,Tryz.ntmps230
   go_wp2_with fail
   refine UN.out.mono ?_;rintro e w1 ⟨rfl,rfl⟩
   go_wp2_with fail
   go_ret;exact⟨a1L hr.out.symm,rfl⟩
theorem e2i:(Tryz.prog.info? 58).map (fun i=>(i.zero,i.size,i.bytes))=some (some (.agg #[.int .i64 0,.int .i64 0,.string ⟨#[]⟩,.int .i64 0,.slice none 0 0,.int .i64 0]),6,72):=by kernel_rfl
def d2z(id:Int)(xs:List (Desk.Ent × Nat × Nat)):List (Desk.Ent × Nat × Nat):=xs.filter fun x=>x.1.id != id
theorem d5V(x:Desk.Ent × Nat × Nat):(c7a x).length=6:=rfl
theorem e9H(xs:List (Desk.Ent × Nat × Nat)):(xs.flatMap c7a).length=xs.length*6:=by
 induction xs with
 |nil=>rfl
 |cons x xs ih=>simp only[List.flatMap_cons,List.length_append,List.length_cons,ih,d5V];omega
theorem e1F{base:Nat}{xs:List (Desk.Ent × Nat × Nat)}(h:w.ownsRow base 58 6 v n (xs.flatMap c7a))(hsl:∀ x∈xs,RSL w x.2.1 x.1.a0e):∃ a cap g,v=.slice a n cap/\n=xs.length/\(xs≠[]->a=some ⟨g,0,none⟩)/\∀ (i:Nat)(hi:i<xs.length),RE w g i xs[i].1 xs[i].2.1 xs[i].2.2:=by
 have hl:=h.1;rw[e9H] at hl;have hn:n=xs.length:=by omega
 rcases h.2 with ⟨rfl,h0⟩|⟨g,cap,cur,rfl,hg,hh,h1,h2,h3,h4⟩
 ·subst h0;have:xs=[]:=List.length_eq_zero_iff.1 hn.symm;subst this;exact⟨none,0,0,rfl,rfl,fun h=>absurd rfl h,fun i hi=>by simp at hi⟩
 ·refine⟨some ⟨g,0,none⟩,cap,g,rfl,hn,fun _=>rfl,fun i hi=>?_⟩
  have key:∀ (j:Nat) (u:Value),j<6->(c7a xs[i])[j]?=some u->w.cell? ⟨g,i*6+j,none⟩=some u:=by
   intro j u hj hu
   have e1:(xs.flatMap c7a)[i*6+j]?=some u:=by
    have hsplit:xs=xs.take i++xs[i] :: xs.drop (i+1):=by rw[List.getElem_cons_drop,List.take_append_drop]
    rw[hsplit,List.flatMap_append,List.flatMap_cons];have hlen:((xs.take i).flatMap c7a).length=i*6:=by rw[e9H,List.length_take_of_le (by omega)]
    rw[List.getElem?_append_right (by omega),hlen,Nat.add_sub_cancel_left,List.getElem?_append_left (by rw[d5V];omega)];exact hu
   have e2:(cur.toList.take (n*6))[i*6+j]?=some u:=by rw[h4];exact e1
   rw[List.getElem?_take_of_lt (by omega)] at e2;simp only[Array.getElem?_toList] at e2;simp[World.cell?,hh,e2]
  exact⟨key 0 _ (by omega) rfl,key 1 _ (by omega) rfl,key 2 _ (by omega) rfl,key 3 _ (by omega) rfl,key 4 _ (by omega) rfl,key 5 _ (by omega) rfl,hsl _ (zg hi)⟩
theorem e5V(d:Nat)(a:Option Addr)(cap E:Nat)(xs:List (Desk.Ent × Nat × Nat))(id:Int)(w:World)(h:RDX w d a cap E xs)(hl:xs.length<=1000):
  Calls Tryz.prog 234 #[.pointer (some ⟨d,0,none⟩),.int .i64 id] w fun e w'=>∃ v,e=.returned v/\w'.ownsRow w.heap.size 58 6 v (d2z id xs).length ((d2z id xs).flatMap c7a)/\Below w.heap.size w w':=by
 obtain⟨i0,hi0,hz0,hz1,hz2⟩:=info_parts e2i;have H:=a0b h;clear h
 go_enter Tryz.func234,Tryz.ntmps234
 go_wp2_with fail
 go_loopw [5,6] (fun v i wx=>∃ k:Nat,k<=xs.length/\i=.int .i64 k/\wx.ownsRow w.heap.size 58 6 v (d2z id (xs.take k)).length ((d2z id (xs.take k)).flatMap c7a)/\Below w.heap.size w wx) (fun _ i _=>xs.length-(intOf i).toNat)
 case atStart=>exact⟨0,Nat.zero_le _,rfl,World.ownsRow_nil _ _ _ _,Below.refl _ _⟩
 case round =>
  obtain⟨k,hk,rfl,hown,hb⟩:=hrel;have hx:=H.out.later hb;have cc:=hx.c;have HOB:=a0b (And.intro hown hb);have hbs:=hb.size
  have bl:(d2z id (xs.take k)).length<=k:=by
   have:=List.length_filter_le (fun x:Desk.Ent × Nat × Nat=>x.1.id != id) (xs.take k);have:=List.length_take_le k xs;unfold d2z;omega
  by_cases hlt:k<xs.length
  ·obtain rfl:=H.out.at hlt;have hr:=hx.r k hlt;have c0:=hr.c0;have c1:=hr.c1;have c2:=hr.c2;have c3:=hr.c3;have c4:=hr.c4;have c5:=hr.c5;have hi:(k:Int)<(xs.length:Int):=by omega
   have ed:d2z id (xs.take (k+1))=d2z id (xs.take k)++if xs[k].1.id != id then [xs[k]] else []:=by
    unfold d2z;rw[List.take_succ_eq_append_getElem hlt,List.filter_append]
    cases hq:(xs[k].1.id != id) <;> simp[hq]
   have ED:=a0b ed;clear ed hr hx
   cases hq:(xs[k].1.id != id)
   ·have HN:Hid (d2z id (xs.take (k+1))=d2z id (xs.take k)):=by show _=_;rw[ED.out,hq];simp
    clear hown hb
    go_wp2_with fail
    go_roundw
    case rel=>exact⟨k+1,by omega,by go_num,by rw[HN.out];exact HOB.out.1,HOB.out.2⟩
    case measure=>simp[intOf];omega
   ·have HN:Hid (d2z id (xs.take (k+1))=d2z id (xs.take k)++[xs[k]]):=by show _=_;rw[ED.out,hq];simp
    clear hb
    go_wp2_with (first
     |(at_builtin;refine wpList_append_own _ rfl _ _ 34 rfl w.heap.size 58 i0 _ 6 72 Tryz.underlying34 hi0 hz0 hz1 hz2 rfl (by decide) _ _ _ rfl (hown.alloc _) ⟨wr.heap.size,0,none⟩ 1 1 (c7a xs[k]) rfl rfl (World.news_of_block (cs:=(c7a xs[k]).toArray) (a0p wr _)) (by simp[c7a,Value.oneCell']) (by unfold maxLen;omega) (by omega) (by simp;omega) ?_;intro v' w' hown' hgrow _))
    have hb':Below w.heap.size w w':=(HOB.out.2.alloc hbs _).grown hgrow (by simp;omega) (fun k hk=>d0G HOB.out.1 hk)
    have HK:Hid (w'.ownsRow w.heap.size 58 6 v' (d2z id (xs.take (k+1))).length ((d2z id (xs.take (k+1))).flatMap c7a)):=by
     show w'.ownsRow _ _ _ _ _ _;rw[HN.out,List.flatMap_append,List.length_append]
     simpa using hown'
    have HB2:=a0b hb';clear hown' hgrow hb' hown HOB c0 c1 c2 c3 c4 c5 cc
    go_wp2_with fail
    go_roundw
    case rel=>exact⟨k+1,by omega,by go_num,HK.out,HB2.out⟩
    case measure=>simp[intOf];omega
  ·have e:xs.take k=xs:=List.take_of_length_le (by omega);have hi:¬ (k:Int)<(xs.length:Int):=by omega
   rw[e] at HOB;clear hown hb hx e
   go_wp2_with fail
   go_ret;exact⟨_,rfl,HOB.out.1,HOB.out.2⟩
def c4x(t:ByteArray × Int):List Value:=[.string t.1,.int .i64 t.2]
structure RD(w:World)(d:Nat)(ts:List (ByteArray × Int))(xs:List (Desk.Ent × Nat × Nat))(given now:Int)(F:List Nat):Prop where
 tv:∃ v,w.cell? ⟨d,0,none⟩=some v/\w.ownsRow 0 315 2 v ts.length (ts.flatMap c4x)/\∀ k,v.ownBlock=some k->k∈F/\k≠d
 ev:∃ v,w.cell? ⟨d,1,none⟩=some v/\w.ownsRow 0 58 6 v xs.length (xs.flatMap c7a)/\∀ k,v.ownBlock=some k->k∈F/\k≠d
 c2:w.cell? ⟨d,2,none⟩=some (.int .i64 given)
 c3:w.cell? ⟨d,3,none⟩=some (.int .i64 now)
 fz:∀ o,w.frozen? ⟨d,o,none⟩=false
 dF:d∈F
 sp:∀ x∈xs,RSL w x.2.1 x.1.a0e/\x.2.1 ∉ F/\x.2.1<w.heap.size
theorem RD.dx{xs:List (Desk.Ent × Nat × Nat)}{now:Int}(h:RD w d ts xs given now F):∃ a cap E,RDX w d a cap E xs:=by
 obtain⟨v,c,ho,_⟩:=h.ev;obtain⟨a,cap,g,rfl,hn,ha,hr⟩:=e1F ho (fun x hx=>(h.sp x hx).1);exact⟨a,cap,g,c,ha,hr⟩
theorem f5K(ts:List (ByteArray × Int)):(ts.flatMap c4x).length=ts.length*2:=by
 induction ts with
 |nil=>rfl
 |cons x xs ih=>simp only[List.flatMap_cons,List.length_append,List.length_cons,ih,c4x,List.length_nil];omega
theorem RD.dt{xs:List (Desk.Ent × Nat × Nat)}{now:Int}(h:RD w d ts xs given now F):∃ a cap G,RDT w d a cap G ts:=by
 obtain⟨v,c,ho,_⟩:=h.tv;have hl:=ho.1;rcases ho.2 with ⟨rfl,h0⟩|⟨g,cap,cur,rfl,hg,hh,h1,h2,h3,h4⟩
 ·have:ts=[]:=List.length_eq_zero_iff.1 h0;subst this;exact⟨none,0,0,c,fun h=>absurd rfl h,fun i hi=>by simp at hi⟩
 ·refine⟨some ⟨g,0,none⟩,cap,g,c,fun _=>rfl,fun i hi=>?_⟩
  have key:∀ (j:Nat) (u:Value),j<2->(c4x ts[i])[j]?=some u->w.cell? ⟨g,i*2+j,none⟩=some u:=by
   intro j u hj hu
   have e1:(ts.flatMap c4x)[i*2+j]?=some u:=by
    have hsplit:ts=ts.take i++ts[i] :: ts.drop (i+1):=by rw[List.getElem_cons_drop,List.take_append_drop]
    rw[hsplit,List.flatMap_append,List.flatMap_cons];have hlen:((ts.take i).flatMap c4x).length=i*2:=by rw[f5K,List.length_take_of_le (by omega)]
    rw[List.getElem?_append_right (by omega),hlen,Nat.add_sub_cancel_left,List.getElem?_append_left (by simp[c4x];omega)];exact hu
   have e2:(cur.toList.take (ts.length*2))[i*2+j]?=some u:=by rw[h4];exact e1
   rw[List.getElem?_take_of_lt (by omega)] at e2;simp only[Array.getElem?_toList] at e2;simp[World.cell?,hh,e2]
  exact⟨key 0 _ (by omega) rfl,key 1 _ (by omega) rfl⟩
theorem a1i{base size:Nat}{xs:List Value}(h:w.ownsRow base e size v n xs)(k:Off G w w')(hg:∀ b,v.ownBlock=some b->b ∉ G):w'.ownsRow base e size v n xs:=by
 refine⟨h.1,?_⟩;rcases h.2 with h0|⟨g,cap,cur,hv,hb,hh,rest⟩
 ·exact .inl h0
 ·refine .inr ⟨g,cap,cur,hv,hb,?_,rest⟩
  have hlt:g<w.heap.size:=by
   by_cases hx:g<w.heap.size
   ·exact hx
   ·rw[Array.getElem?_eq_none (by omega)] at hh;cases hh
  rw[k.block g hlt (hg g (by rw[hv];rfl))];exact hh
theorem RD.off{xs:List (Desk.Ent × Nat × Nat)}{now:Int}(h:RD w d ts xs given now F)(k:Off G w w')(hF:∀ x∈F,x ∉ G)(hS:∀ x∈xs,x.2.1 ∉ G):RD w' d ts xs given now F:=by
 have hd:d ∉ G:=hF d h.dF;obtain⟨v1,a1,a2,a3⟩:=h.tv;obtain⟨v2,b1,b2,b3⟩:=h.ev
 exact⟨⟨v1,k.cell hd a1,a1i a2 k (fun b hb=>hF b (a3 b hb).1),a3⟩,⟨v2,k.cell hd b1,a1i b2 k (fun b hb=>hF b (b3 b hb).1),b3⟩,k.cell hd h.c2,k.cell hd h.c3,
  fun o=>(k.frozen hd (World.block_lt_of_cell? _ _ h.c2)).trans (h.fz o),h.dF,fun x hx=>⟨(h.sp x hx).1.off k (hS x hx),(h.sp x hx).2.1,Nat.lt_of_lt_of_le (h.sp x hx).2.2 k.size⟩⟩
def e3T(err n:Int):Value:=.agg #[.int .i64 err,.int .i64 0,.int .i64 n,.slice none 0 0,.slice none 0 0,.slice none 0 0,.slice none 0 0]
def a2i(w:World)(d o:Nat)(v:Value)(l':List Hp.Hi)(w':World):Prop :=
 ∃ v',HP w' d o v' l'/\(∀ b,v'.ownBlock=some b->v.ownBlock=some b\/w.heap.size<=b)/\Off (d :: v.ownBlock.toList) w w'/\(∀ o',o'≠o->w'.cell? ⟨d,o',none⟩=w.cell? ⟨d,o',none⟩)/\∀ o',w'.frozen? ⟨d,o',none⟩=w.frozen? ⟨d,o',none⟩
theorem b8B{m:List Hp.Hi}(h:m.length=n+1)(a b c:Value):(((m.flatMap a9Z).set (n*3) a).set (n*3+1) b).set (n*3+2) c=(m.take n).flatMap a9Z++[a,b,c]:=by
 have hn:n<m.length:=by omega
 have hlen:((m.take n).flatMap a9Z).length=n*3:=by rw[a6R,List.length_take_of_le (by omega)]
 conv=>lhs;rw[a6i hn,List.flatMap_append,List.flatMap_cons]
 rw[List.set_append_right _ _ (by omega),List.set_append_right _ _ (by omega),List.set_append_right _ _ (by omega),hlen];rw[show n*3-n*3=0 from by omega,show n*3+1-n*3=1 from by omega,show n*3+2-n*3=2 from by omega];have e:m.drop (n+1)=[]:=List.drop_eq_nil_of_le (by omega);simp[a9Z,e]
def a9M(w:World)(H p n:Nat)(x:Hp.Hi):World :=
 (((((w.setCell ⟨H,p*3,none⟩ (.int .i64 x.t)).setCell ⟨H,p*3+1,none⟩ (.int .i64 x.n)).setCell ⟨H,p*3+2,none⟩ (.pointer (some ⟨x.v,0,none⟩))).setCell ⟨H,n*3,none⟩ (.int .i64 0)).setCell ⟨H,n*3+1,none⟩ (.int .i64 0)).setCell ⟨H,n*3+2,none⟩ (.pointer none)
theorem b5u(w:World)(H p n:Nat)(x:Hp.Hi):Off [H] w (a9M w H p n x):=(a5u _ _ _ _ _ _ _ _).trans (a5u _ _ _ _ _ _ _ _)
theorem HP.a9M{l:List Hp.Hi}(h:HP w d o (.slice (some ⟨H,0,none⟩) l.length cap) l)(hn:l.length=n+1)(hp:p<l.length):
  HP ((a9M w H p n (Hp.at_ l n)).setCell ⟨d,o,none⟩ (.slice (some ⟨H,0,none⟩) n cap)) d o (.slice (some ⟨H,0,none⟩) (Hp.cut l p).length cap) (Hp.cut l p):=by
 have hne:d≠H:=fun e=>h.ne (by rw[e];rfl)
 have k:=b5u w H p n (Hp.at_ l n);have c1:=k.cell (by simpa using hne) h.c;have a:=h.put hp (Hp.at_ l n);have e:Hp.cut l p=(l.set p (Hp.at_ l n)).take n:=by unfold Hp.cut;rw[hn];rfl
 have el:(Hp.cut l p).length=n:=by rw[Hp.a4y,hn];rfl
 have hm:(l.set p (Hp.at_ l n)).length=n+1:=by simpa using hn
 have b:=(((a.own.stored (n*3) (.int .i64 0)).1.stored (n*3+1) (.int .i64 0)).1.stored (n*3+2) (.pointer none)).1;rw[b8B hm,hm,<- e] at b;have b2:=ownsRow_pop (by rw[a6R,el]) b;refine⟨?_,?_,h.ne,?_⟩
 ·rw[el];exact zm _ _ _ c1
 ·rw[el];exact a1i b2 (Off.set0 d _ o _) (fun x hx=>by simp;rintro rfl;exact hne (by simpa[Value.ownBlock] using hx.symm))
 ·exact (zF ..).trans ((k.frozen (by simpa using hne) (World.block_lt_of_cell? _ _ h.c)).trans h.fz)
theorem a2i.of{w1:World}{l1 l':List Hp.Hi}(hv:v.ownBlock=some H)(hd:d<w.heap.size)(hne:d≠H)(h1:Off [d,H] w w1)(hc:∀ o',o'≠o->w1.cell? ⟨d,o',none⟩=w.cell? ⟨d,o',none⟩)(hf:∀ o',w1.frozen? ⟨d,o',none⟩=w.frozen? ⟨d,o',none⟩)(h2:a3b w1 w2 d o H l1.length cap l1 l'):a2i w d o v l' w2:=by
 have hb:w2.heap[d]?=w1.heap[d]?:=h2.off.block d (zL hd h1.size) (by simpa using hne);refine⟨_,h2.hp,fun b hb=>.inl (by rw[hv];exact hb),?_,fun o' ho=>(zo hb).trans (hc o' ho),fun o'=>?_⟩
 ·rw[hv];exact h1.trans' h2.off (fun x hx=>.inl (by simp at hx;simp[hx]))
 ·exact (World.frozen?_of_block hb).trans (hf o')
theorem b0y(d o:Nat)(v:Value)(l:List Hp.Hi)(p:Nat)(w:World)(h:HP w d o v l)(hh:Hp.a6r l)(hp:p<l.length)(hl:l.length<=1000):
  Calls Tryz.prog 204 #[.pointer (some ⟨d,o,none⟩),.int .i64 p] w fun e w'=>e=.returned (.tuple #[])/\∃ l',a2i w d o v l' w'/\Hp.a6r l'/\l.Perm (Hp.at_ l p :: l'):=by
 obtain⟨H,cap,rfl⟩:=h.form (by omega);obtain⟨n,hn⟩:∃ n,l.length=n+1:=⟨l.length-1,by omega⟩;have c:=h.c;have hne:d≠H:=fun e=>h.ne (by rw[e];rfl)
 obtain⟨a0,a1,a2⟩:=h.at hp;obtain⟨b0,b1,b2⟩:=h.at (i:=n) (by omega);have fz:∀ k,w.frozen? ⟨H,k,none⟩=false:=fun k=>h.own.frozenAt k
 have fd:=h.fz;have CL:=a0b (h.a9M hn hp);have e0:=(h.put hp (Hp.at_ l n)).at (i:=n) (by simp;omega);have ee:Hp.at_ (l.set p (Hp.at_ l n)) n=Hp.at_ l n:=by rw[Hp.b7r];split <;> rfl
 rw[ee] at e0;obtain⟨y0,y1,y2⟩:=e0;clear ee;have i1:(p:Int)<(l.length:Int):=by omega
 have HH:=a0b h;clear h;rw[hn] at c i1;generalize hx:Hp.at_ l n=x at *
 go_enter Tryz.func204,Tryz.ntmps204
 go_upto_region 1 with fail
 go_big_region
 have o1:Off [H] w (((w.setCell ⟨H,p*3,none⟩ (.int .i64 x.t)).setCell ⟨H,p*3+1,none⟩ (.int .i64 x.n)).setCell ⟨H,p*3+2,none⟩ (.pointer (some ⟨x.v,0,none⟩))):=a5u _ _ _ _ _ _ _ _;have c1:=o1.cell (by simpa using hne) c;have fd1:=(o1.frozen (o:=o) (by simpa using hne) (World.block_lt_of_cell? _ _ c)).trans fd;have fz1:∀ k,(((w.setCell ⟨H,p*3,none⟩ (.int .i64 x.t)).setCell ⟨H,p*3+1,none⟩ (.int .i64 x.n)).setCell ⟨H,p*3+2,none⟩ (.pointer (some ⟨x.v,0,none⟩))).frozen? ⟨H,k,none⟩=false:=fun k=>by simp[World.frozen?_setCell,fz]
 unfold a9M at CL;generalize hX:(((w.setCell ⟨H,p*3,none⟩ (.int .i64 x.t)).setCell ⟨H,p*3+1,none⟩ (.int .i64 x.n)).setCell ⟨H,p*3+2,none⟩ (.pointer (some ⟨x.v,0,none⟩)))=X at *;clear hX;have o2:=a5u X H (n*3) (n*3+1) (n*3+2) (.int .i64 0) (.int .i64 0) (.pointer none);have c2:=o2.cell (by simpa using hne) c1;have fd2:=(o2.frozen (o:=o) (by simpa using hne) (World.block_lt_of_cell? _ _ c1)).trans fd1
 go_upto_region 3 with fail
 generalize hY:((X.setCell ⟨H,n*3,none⟩ (.int .i64 0)).setCell ⟨H,n*3+1,none⟩ (.int .i64 0)).setCell ⟨H,n*3+2,none⟩ (.pointer none)=Y at *;clear hY
 have hcap:n+1<=cap:=by
  have h:=HH.out.own.2;rcases h with ⟨h0,_⟩|⟨g,cap',cur,hv,_,_,h1,_⟩
  ·cases h0
  ·cases hv;omega
 have hcap2:(n:Int)<=(cap:Int):=by omega
 have oo:Off [d,H] w (Y.setCell ⟨d,o,none⟩ (.slice (some ⟨H,0,none⟩) n cap)):=((o1.trans o2).mono (by simp)).setCell (.inl (by simp)) _ _;have hdl:d<w.heap.size:=World.block_lt_of_cell? _ _ c
 have hcc:∀ o',o'≠o->(Y.setCell ⟨d,o,none⟩ (.slice (some ⟨H,0,none⟩) n cap)).cell? ⟨d,o',none⟩=w.cell? ⟨d,o',none⟩:=fun o' ho =>
  (zS _ _ _ _ (by have:=ho;simp)).trans (zo ((o1.trans o2).block d hdl (by simpa using hne)))
 have hff:∀ o',(Y.setCell ⟨d,o,none⟩ (.slice (some ⟨H,0,none⟩) n cap)).frozen? ⟨d,o',none⟩=w.frozen? ⟨d,o',none⟩:=fun o' =>
  (zF ..).trans (World.frozen?_of_block ((o1.trans o2).block d hdl (by simpa using hne)))
 have OO:=a0b (And.intro oo (And.intro hcc hff));have el:(Hp.cut l p).length=n:=by rw[Hp.a4y,hn];rfl
 clear oo hcc hff o1 o2 c c1 a0 a1 a2 b0 b1 b2 y0 y1 y2 fz fz1 fd fd1
 by_cases hlt:p<n
 ·have hlt':(p:Int)<(n:Int):=by omega
  go_upto_region 5 with fail
  generalize hZ:Y.setCell ⟨d,o,none⟩ (.slice (some ⟨H,0,none⟩) n cap)=Z at *;have SK:=a0b (c2m d o H cap (Hp.cut l p) p Z.drew (CL.out.off (G:=[]) (Off.refl _ _).drew (by simp) (by simp)) (by omega) (Hp.c3x hh (by omega)) (by omega));clear hZ hcap hcap2 c2 fd2
  go_wp2_with fail
  refine SK.out.mono ?_;rintro e w4 ⟨rfl,l2,t2,r2⟩;have T2:=a0b t2;have hl2:=t2.len;have RS:=a0b (b6g d o H cap l2 p w4 (by rw[hl2];exact t2.hp) (by omega) r2 (by omega));clear t2 r2 SK
  go_wp2_with fail
  refine RS.out.mono ?_;rintro e w5 ⟨rfl,l3,t3,r3⟩
  have HF:Hid (∃ l',a2i w d o (.slice (some ⟨H,0,none⟩) l.length cap) l' w5/\Hp.a6r l'/\l.Perm (Hp.at_ l p :: l')):=by
   refine⟨l3,a2i.of (l1:=Hp.cut l p) rfl hdl hne OO.out.1 OO.out.2.1 OO.out.2.2 ⟨by rw[el,<- el,<- hl2];exact t3.hp,by rw[t3.len,hl2],t3.perm.trans T2.out.perm,((Off.refl [H] Z).drew).trans (T2.out.off.trans t3.off)⟩,r3,?_⟩;exact (Hp.b7j hp).trans ((t3.perm.trans T2.out.perm).symm.cons _)
  clear t3 r3 T2 RS
  go_wp2_with fail
  go_end0
  exact⟨rfl,HF.out⟩
 ·have hlt':¬ ((p:Int)<(n:Int)):=by omega
  have hpn:p=n:=by omega
  have HF:Hid (∃ l',a2i w d o (.slice (some ⟨H,0,none⟩) l.length cap) l' (Y.setCell ⟨d,o,none⟩ (.slice (some ⟨H,0,none⟩) n cap)).drew/\Hp.a6r l'/\l.Perm (Hp.at_ l p :: l')):=by
   refine⟨Hp.cut l p,a2i.of (l1:=Hp.cut l p) rfl hdl hne OO.out.1 OO.out.2.1 OO.out.2.2 ⟨CL.out.off (G:=[]) (Off.refl _ _).drew (by simp) (by simp),rfl,.refl _,(Off.refl _ _).drew⟩,?_,Hp.b7j hp⟩;rw[hpn,show n=l.length-1 by omega];exact Hp.c3y hh
  clear CL OO hn hx hpn el
  go_wp2_with fail
  go_end0
  exact⟨rfl,HF.out⟩
theorem b7P(d o:Nat)(v:Value)(l:List Hp.Hi)(t:Int)(w:World)(h:HP w d o v l)(hh:Hp.a6r l)(hl:l.length<=1000):
  Calls Tryz.prog 218 #[.pointer (some ⟨d,o,none⟩),.int .i64 t] w fun e w' =>
   ((l.length=0\/t<(Hp.at_ l 0).t)/\e=.returned (.tuple #[.pointer none,.bool false])/\w'=w) \/
   ((0<l.length/\(Hp.at_ l 0).t<=t)/\e=.returned (.tuple #[.pointer (some ⟨(Hp.at_ l 0).v,0,none⟩),.bool true])/\∃ l',a2i w d o v l' w'/\Hp.a6r l'/\l.Perm (Hp.at_ l 0 :: l')):=by
 have FI:=a0b (b0P d o v l w h)
 by_cases h0:l.length=0
 ·have e1:c5M l=false:=by simp[c5M,h0]
  rw[e1] at FI;have HH:Hid (l.length=0\/t<(Hp.at_ l 0).t):=.inl h0;clear h e1 h0
  go_enter Tryz.func218,Tryz.ntmps218
  go_wp2_with fail
  refine FI.out.mono ?_;rintro e w1 ⟨rfl,rfl⟩
  go_wp2_with fail
  go_ret2;exact .inl ⟨HH.out,rfl,rfl⟩
 ·have hp:0<l.length:=by omega
  rw[b1W hp,b1V hp] at FI
  by_cases ht:t<(Hp.at_ l 0).t
  ·have HH:Hid (l.length=0\/t<(Hp.at_ l 0).t):=.inr ht;clear h h0
   go_enter Tryz.func218,Tryz.ntmps218
   go_wp2_with fail
   refine FI.out.mono ?_;rintro e w1 ⟨rfl,rfl⟩
   go_wp2_with fail
   go_ret2;exact .inl ⟨HH.out,rfl,rfl⟩
  ·obtain⟨H,cap,rfl⟩:=h.form hp;have c:=h.c;obtain⟨a0,a1,a2⟩:=h.at hp;simp only[Nat.zero_mul,Nat.zero_add] at a0 a1 a2;have RM:=a0b (b0y d o _ l 0 w h hh hp hl);have HH:Hid (0<l.length/\(Hp.at_ l 0).t<=t):=⟨hp,by omega⟩;have hi:(0:Int)<(l.length:Int):=by omega
   clear h h0
   go_enter Tryz.func218,Tryz.ntmps218
   go_wp2_with fail
   refine FI.out.mono ?_;rintro e w1 ⟨rfl,rfl⟩
   go_wp2_with fail
   refine RM.out.mono ?_;rintro e w2 ⟨rfl,k⟩;have K:=a0b k;clear k RM FI
   go_wp2_with fail
   go_ret2;exact .inr ⟨HH.out,rfl,K.out⟩
end Go.Proofs.YtfigmlfdnickmaaGreatDoor
