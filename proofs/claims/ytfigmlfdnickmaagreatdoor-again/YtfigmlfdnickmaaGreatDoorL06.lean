import Derived.Test.YtfigmlfdnickmaaGreatDoorL05
set_option maxRecDepth 100000
set_option maxHeartbeats 8000000
variable{e z:Go.Proofs.YtfigmlfdnickmaaGreatDoor.Desk.Ent}{a a0c b dt fr id m x y:Int}{ts:List (ByteArray × Int)}{L:List (Int × Int)}{es:List Go.Proofs.YtfigmlfdnickmaaGreatDoor.Desk.Ent}{acc l:List Int}
namespace Go.Proofs.YtfigmlfdnickmaaGreatDoor
namespace Rd
def a1p(p:Int->Bool):Nat->Int->List Int
 |0,_=>[]
 |k+1,d=>if p d then d :: a1p p k (d+1) else a1p p k (d+1)
theorem a5r(p:Int->Bool):∀ (k:Nat)(d x:Int),x∈a1p p k d↔d<=x/\x<d+k/\p x=true
 |0,d,x=>by simp[a1p];omega
 |k+1,d,x=>by
  have ih:=a5r p k (d+1) x;simp only[a1p]
  by_cases c:p d=true
  ·rw[if_pos c,List.mem_cons,ih];constructor
   ·rintro (rfl|⟨h1,h2,h3⟩)
    ·exact⟨Int.le_refl _,by omega,c⟩
    ·exact⟨by omega,by omega,h3⟩
   ·rintro ⟨h1,h2,h3⟩
    by_cases e:x=d
    ·exact .inl e
    ·exact .inr ⟨by omega,by omega,h3⟩
  ·rw[if_neg c,ih];constructor
   ·rintro ⟨h1,h2,h3⟩;exact⟨by omega,by omega,h3⟩
   ·rintro ⟨h1,h2,h3⟩;have:x≠d:=fun e=>c (e ▸ h3)
    exact⟨by omega,by omega,h3⟩
theorem a3X(p:Int->Bool):∀ (k:Nat)(d:Int),(a1p p k d).Pairwise (· < ·)
 |0,d=>by simp[a1p]
 |k+1,d=>by
  simp only[a1p]
  split
  ·rw[List.pairwise_cons];exact⟨fun x hx=>by have:=(a5r p k (d+1) x).1 hx;omega,a3X p k (d+1)⟩
  ·exact a3X p k (d+1)
theorem b8Z{m:List Int}(hl:l.Pairwise (· < ·))(hm:m.Pairwise (· < ·))(h:∀ x,x∈l↔x∈m):l=m :=
 a4i (lt:=fun a b:Int=>a<b) (fun x=>by omega) (fun x y z h k=>by omega) hl hm h
def b0f(ev:Int):Nat->Int->List Int
 |0,_=>[]
 |k+1,d=>if d<728 then d :: b0f ev k (d+ev) else []
theorem b6d{ev:Int}(he:1<=ev):∀ (k:Nat)(d x:Int),728<=d+k->(x∈b0f ev k d↔d<=x/\x<728/\(x-d) % ev=0)
 |0,d,x,h=>by simp[b0f];omega
 |k+1,d,x,h=>by
  simp only[b0f]
  by_cases c:d<728
  ·rw[if_pos c,List.mem_cons,b6d he k (d+ev) x (by omega)];have e1:(x-(d+ev)) % ev=(x-d) % ev:=by rw[show x-(d+ev)=x-d-ev from by omega,Int.sub_emod_right]
   rw[e1];constructor
   ·rintro (rfl|⟨h1,h2,h3⟩)
    ·exact⟨Int.le_refl _,c,by simp⟩
    ·exact⟨by omega,h2,h3⟩
   ·rintro ⟨h1,h2,h3⟩
    by_cases e:d+ev<=x
    ·exact .inr ⟨e,h2,h3⟩
    ·rw[Int.emod_eq_of_lt (by omega) (by omega)] at h3;exact .inl (by omega)
  ·rw[if_neg c];simp;omega
theorem b4H{ev:Int}(he:1<=ev):∀ (k:Nat)(d:Int),(b0f ev k d).Pairwise (· < ·)/\∀ x∈b0f ev k d,d<=x
 |0,d=>by simp[b0f]
 |k+1,d=>by
  simp only[b0f];obtain⟨i1,i2⟩:=b4H he k (d+ev)
  split
  ·refine⟨List.pairwise_cons.2 ⟨fun x hx=>by have:=i2 x hx;omega,i1⟩,fun x hx=>?_⟩;rcases List.mem_cons.1 hx with rfl|hx
   ·exact Int.le_refl _
   ·have:=i2 x hx;omega
  ·simp
def c1K(acc:List Int)(fr mon:Int):List Int:=a1p (fun d=>isd acc (d-mon)) (mon+7-max mon fr).toNat (max mon fr)
def a9Y(acc:List Int)(fr ev:Int):Nat->Int->List Int
 |0,_=>[]
 |k+1,mon=>if mon<728 then c1K acc fr mon++a9Y acc fr ev k (mon+ev*7) else []
theorem b1o{mon:Int}:x∈c1K acc fr mon↔mon<=x/\fr<=x/\x<mon+7/\isd acc (x-mon)=true:=by
 unfold c1K;rw[a5r];constructor
 ·rintro ⟨h1,h2,h3⟩;exact⟨by omega,by omega,by omega,h3⟩
 ·rintro ⟨h1,h2,h3,h4⟩;exact⟨by omega,by omega,h4⟩
theorem b6b{ev:Int}(he:1<=ev):∀ (k:Nat)(mon x:Int),0<=mon->mon % 7=0->728<=mon+k->(x∈a9Y acc fr ev k mon↔mon<=x/\fr<=x/\x<728/\isd acc (x % 7)=true/\(x / 7-mon / 7) % ev=0)
 |0,mon,x,h0,h7,h=>by simp[a9Y];omega
 |k+1,mon,x,h0,h7,h=>by
  simp only[a9Y]
  by_cases c:mon<728
  ·have hev:(ev*7) % 7=0:=by omega
   rw[if_pos c,List.mem_append,b1o,b6b he k (mon+ev*7) x (by omega) (by omega) (by omega)];have e0:(mon+ev*7) / 7=mon / 7+ev:=by omega
   have e1:(x / 7-(mon+ev*7) / 7) % ev=(x / 7-mon / 7) % ev:=by rw[e0,show x / 7-(mon / 7+ev)=x / 7-mon / 7-ev from by omega,Int.sub_emod_right]
   rw[e1];constructor
   ·rintro (⟨h1,h2,h3,h4⟩|⟨h1,h2,h3,h4,h5⟩)
    ·have e2:x-mon=x % 7:=by omega
     have e3:x / 7-mon / 7=0:=by omega
     rw[e2] at h4;rw[e3];exact⟨h1,h2,by omega,h4,by simp⟩
    ·exact⟨by omega,h2,h3,h4,h5⟩
   ·rintro ⟨h1,h2,h3,h4,h5⟩
    by_cases e:x<mon+7
    ·have e2:x-mon=x % 7:=by omega
     exact .inl ⟨h1,h2,e,by rw[e2];exact h4⟩
    ·by_cases e':mon+ev*7<=x
     ·exact .inr ⟨e',h2,h3,h4,h5⟩
     ·rw[Int.emod_eq_of_lt (by omega) (by omega)] at h5;omega
  ·rw[if_neg c];simp;omega
theorem b4F{ev:Int}(he:1<=ev):∀ (k:Nat)(mon:Int),(a9Y acc fr ev k mon).Pairwise (· < ·)/\∀ x∈a9Y acc fr ev k mon,mon<=x
 |0,mon=>by simp[a9Y]
 |k+1,mon=>by
  simp only[a9Y];obtain⟨i1,i2⟩:=b4F (acc:=acc) (fr:=fr) he k (mon+ev*7)
  split
  ·refine⟨List.pairwise_append.2 ⟨a3X _ _ _,i1,fun x hx y hy=>?_⟩,fun x hx=>?_⟩
   ·have:=b1o.1 hx;have:=i2 y hy;omega
   ·rcases List.mem_append.1 hx with hx|hx
    ·exact (b1o.1 hx).1
    ·have:=i2 x hx;omega
  ·simp
def reached(y m:Int):Bool:=Cal.ok y m 1 && decide (Cal.num y m 1<728)
def a4E(y m ev:Int):Int:=y+(m-1+ev) / 12
def a3J(m ev:Int):Int:=(m-1+ev) % 12+1
def a4s(y m dt:Int):List Int:=if Cal.ok y m dt then [Cal.num y m dt] else []
def b0e(dt ev:Int):Nat->Int->Int->List Int
 |0,_,_=>[]
 |k+1,y,m=>if reached y m then a4s y m dt++b0e dt ev k (a4E y m ev) (a3J m ev) else []
theorem a8c{d y' m' d':Int}(h:Cal.ok y m d=true)(h':Cal.ok y' m' d'=true)(k:12*y+m<12*y'+m'):Cal.num y m d<Cal.num y' m' d':=by
 have i:=Cal.a9p y m d h;have i':=Cal.a9p y' m' d' h';obtain⟨h1,h2,h3,h4,h5,h6⟩:=(Cal.a2K y m d).1 h;obtain⟨g1,g2,g3,g4,g5,g6⟩:=(Cal.a2K y' m' d').1 h'
 by_cases e:y=y'
 ·subst e;have:=Cal.b2i y m m' h3 (by omega) (by omega);unfold Cal.num;omega
 ·have:=Cal.a9T (y+1) y' (by omega) (by omega);omega
theorem a6I(h1:1<=y)(h2:y<=9999)(h3:1<=m)(h4:m<=12):Cal.ok y m 1=true:=by
 have:=Cal.b3I y m;exact (Cal.a2K _ _ _).2 ⟨h1,h2,h3,h4,by omega,by omega⟩
theorem a8Z(h1:2024<=y)(h2:y<=9999)(h3:1<=m)(h4:m<=12):reached y m=true↔12*y+m<=24312:=by
 have o:=a6I (m:=m) (by omega:1<=y) h2 h3 h4;unfold reached;rw[o,Bool.true_and,decide_eq_true_eq];have e1:Cal.num 2025 12 1=700:=by decide
 have e2:Cal.num 2026 1 1=731:=by decide
 constructor
 ·intro h;apply Classical.byContradiction;intro c
  by_cases e:12*y+m=24313
  ·have:y=2026:=by omega
   have:m=1:=by omega
   subst_vars;omega
  ·have:=a8c (a6I (y:=2026) (m:=1) (by omega) (by omega) (by omega) (by omega)) o (by omega);omega
 ·intro h
  by_cases e:12*y+m=24312
  ·have:y=2025:=by omega
   have:m=12:=by omega
   subst_vars;omega
  ·have:=a8c o (a6I (y:=2025) (m:=12) (by omega) (by omega) (by omega) (by omega)) (by omega);omega
theorem b1N{ev:Int}:12*a4E y m ev+a3J m ev=12*y+m+ev/\1<=a3J m ev/\a3J m ev<=12:=by
 unfold a4E a3J;omega
theorem a6c(h0:0<=x)(h1:x<728):Cal.ok (Cal.yT x) (Cal.mT x) (Cal.dT x)=true/\Cal.num (Cal.yT x) (Cal.mT x) (Cal.dT x)=x/\2024<=Cal.yT x/\12*Cal.yT x+Cal.mT x<=24312:=by
 obtain⟨o,n⟩:=Cal.c6G x (by omega) (by omega);refine⟨o,n,?_,?_⟩
 ·apply Classical.byContradiction;intro c;obtain⟨g1,g2,g3,g4,g5,g6⟩:=(Cal.a2K _ _ _).1 o;have:=a8c o (a6I (y:=2024) (m:=1) (by omega) (by omega) (by omega) (by omega)) (by omega);have e:Cal.num 2024 1 1=0:=by decide
  omega
 ·apply Classical.byContradiction;intro c;obtain⟨g1,g2,g3,g4,g5,g6⟩:=(Cal.a2K _ _ _).1 o;have e2:Cal.num 2026 1 1=731:=by decide
  have o2:=a6I (y:=2026) (m:=1) (by omega) (by omega) (by omega) (by omega)
  by_cases e:12*Cal.yT x+Cal.mT x=24313
  ·have:Cal.yT x=2026:=by omega
   have e':Cal.mT x=1:=by omega
   rw[this,e'] at n
   have e3:Cal.num 2026 1 (Cal.dT x)=731+Cal.dT x-1:=by
    have:Cal.num 2026 1 (Cal.dT x)=Cal.num 2026 1 1+Cal.dT x-1:=by unfold Cal.num;omega
    omega
   omega
  ·have:=a8c o2 o (by omega);omega
theorem b6c{ev:Int}(he:1<=ev)(he2:ev<=99):∀ (k:Nat)(y m x:Int),2024<=y->y<=2034->1<=m->m<=12->24312<12*y+m+k->0<=x->x<728 ->
  (x∈b0e dt ev k y m↔Cal.dT x=dt/\12*y+m<=12*Cal.yT x+Cal.mT x/\(12*Cal.yT x+Cal.mT x-12*y-m) % ev=0)
 |0,y,m,x,hy,hy2,hm,hm2,hk,h0,h1=>by
  have:=(a6c h0 h1).2.2.2;simp[b0e];omega
 |k+1,y,m,x,hy,hy2,hm,hm2,hk,h0,h1=>by
  obtain⟨o,n,y0,mx⟩:=a6c h0 h1;obtain⟨g1,g2,g3,g4,g5,g6⟩:=(Cal.a2K _ _ _).1 o;simp only[b0e];have hr:=a8Z (y:=y) (m:=m) hy (by omega) hm hm2
  by_cases c:12*y+m<=24312
  ·rw[if_pos (hr.2 c),List.mem_append];obtain⟨l1,l2,l3⟩:=b1N (y:=y) (m:=m) (ev:=ev);rw[b6c he he2 k (a4E y m ev) (a3J m ev) x (by omega) (by omega) l2 l3 (by omega) h0 h1]
   have e1:(12*Cal.yT x+Cal.mT x-12*a4E y m ev-a3J m ev) % ev=(12*Cal.yT x+Cal.mT x-12*y-m) % ev:=by
    rw[show 12*Cal.yT x+Cal.mT x-12*a4E y m ev-a3J m ev=12*Cal.yT x+Cal.mT x-12*y-m-ev from by omega,Int.sub_emod_right]
   rw[e1,l1]
   have hin:x∈a4s y m dt↔Cal.dT x=dt/\12*y+m=12*Cal.yT x+Cal.mT x:=by
    unfold a4s;constructor
    ·intro h
     by_cases ok:Cal.ok y m dt=true
     ·rw[if_pos ok] at h;have:x=Cal.num y m dt:=by simpa using h
      obtain⟨a1,a2,a3⟩:=Cal.c4g y m dt x ok this.symm;exact⟨a3.symm,by omega⟩
     ·rw[if_neg ok] at h;simp at h
    ·rintro ⟨a1,a2⟩;have e2:y=Cal.yT x:=by omega
     have e3:m=Cal.mT x:=by omega
     subst a1;rw[e2,e3,if_pos o,n];simp
   rw[hin];constructor
   ·rintro (⟨a1,a2⟩|⟨a1,a2,a3⟩)
    ·refine⟨a1,by omega,?_⟩;rw[show 12*Cal.yT x+Cal.mT x-12*y-m=0 from by omega];simp
    ·exact⟨a1,by omega,a3⟩
   ·rintro ⟨a1,a2,a3⟩
    by_cases e:12*y+m+ev<=12*Cal.yT x+Cal.mT x
    ·exact .inr ⟨a1,e,a3⟩
    ·rw[Int.emod_eq_of_lt (by omega) (by omega)] at a3;exact .inl ⟨a1,by omega⟩
  ·have hn:¬ reached y m=true:=fun h=>c (hr.1 h)
   rw[if_neg hn];simp;omega
theorem b4G{ev:Int}(he:1<=ev):∀ (k:Nat)(y m:Int),1<=m->m<=12->(b0e dt ev k y m).Pairwise (· < ·)/\∀ x∈b0e dt ev k y m,∃ y' m',Cal.ok y' m' dt=true/\x=Cal.num y' m' dt/\12*y+m<=12*y'+m'
 |0,y,m,_,_=>by simp[b0e]
 |k+1,y,m,h1,h2=>by
  simp only[b0e];obtain⟨l1,l2,l3⟩:=b1N (y:=y) (m:=m) (ev:=ev);obtain⟨i1,i2⟩:=b4G (dt:=dt) he k (a4E y m ev) (a3J m ev) l2 l3
  split
  ·unfold a4s
   by_cases ok:Cal.ok y m dt=true
   ·rw[if_pos ok];refine⟨List.pairwise_append.2 ⟨by simp,i1,fun x hx z hz=>?_⟩,fun x hx=>?_⟩
    ·have:x=Cal.num y m dt:=by simpa using hx
     obtain⟨y',m',o,rfl,k⟩:=i2 z hz;rw[this];exact a8c ok o (by omega)
    ·rcases List.mem_append.1 hx with hx|hx
     ·have:x=Cal.num y m dt:=by simpa using hx
      exact⟨y,m,ok,this,Int.le_refl _⟩
     ·obtain⟨y',m',o,e,k⟩:=i2 x hx;exact⟨y',m',o,e,by omega⟩
   ·rw[if_neg ok];refine⟨by simpa using i1,fun x hx=>?_⟩;obtain⟨y',m',o,e,k⟩:=i2 x (by simpa using hx);exact⟨y',m',o,e,by omega⟩
  ·simp
structure a0Y where
 pc:Int
 ev:Int
 acc:List Int
 fr:Int
 mn:Int
 mi:Int
 ti:Int
 un:Int
structure a6s(r:a0Y):Prop where
 pc1:1<=r.pc
 pc3:r.pc<=3
 e1:1<=r.ev
 e2:r.ev<=99
 f0:0<=r.fr
 f1:r.fr<728
 m0:0<=r.mn
 m1:r.mn<1440
 i1:1<=r.mi
 i2:r.mi<=1048320
 t0:0<=r.ti
 t1:r.ti<=99
 u0:0<=r.un
 u1:r.un<728
def has(r:a0Y)(d:Int):Bool :=
 if r.pc=1 then decide ((d-r.fr) % r.ev=0)
 else if r.pc=2 then isd r.acc (d % 7) && decide ((d / 7-r.fr / 7) % r.ev=0)
 else decide (Cal.dT d=Cal.dT r.fr) && decide ((12*Cal.yT d+Cal.mT d-12*Cal.yT r.fr-Cal.mT r.fr) % r.ev=0)
def all(r:a0Y):List Int:=a1p (has r) (728-r.fr).toNat r.fr
theorem b5H{r:a0Y}(h:a6s r)(x:Int):x∈all r↔r.fr<=x/\x<728/\has r x=true:=by
 have:=h.f1;unfold all;rw[a5r];constructor
 ·rintro ⟨h1,h2,h3⟩;exact⟨h1,by omega,h3⟩
 ·rintro ⟨h1,h2,h3⟩;exact⟨h1,by omega,h3⟩
def seq(r:a0Y):List Int :=
 if r.pc=2 then a9Y r.acc r.fr r.ev 800 (r.fr-r.fr % 7)
 else if r.pc=3 then b0e (Cal.dT r.fr) r.ev 100 (Cal.yT r.fr) (Cal.mT r.fr)
 else b0f r.ev 800 r.fr
theorem c3S{r:a0Y}(h:a6s r):(seq r).Pairwise (· < ·):=by
 unfold seq
 split
 ·exact (b4F h.e1 _ _).1
 ·split
  ·have o:=(a6c h.f0 h.f1).1;obtain⟨g1,g2,g3,g4,g5,g6⟩:=(Cal.a2K _ _ _).1 o;exact (b4G h.e1 _ _ _ g3 g4).1
  ·exact (b4H h.e1 _ _).1
theorem b9A{r:a0Y}(h:a6s r)(h0:0<=x)(h1:x<728):x∈seq r↔r.fr<=x/\has r x=true:=by
 have f0:=h.f0;have f1:=h.f1;have p1:=h.pc1;have p3:=h.pc3;unfold seq has
 by_cases c2:r.pc=2
 ·rw[if_pos c2,if_neg (by omega),if_pos c2,b6b h.e1 800 _ x (by omega) (by omega) (by omega)];have e:(r.fr-r.fr % 7) / 7=r.fr / 7:=by omega
  rw[e,Bool.and_eq_true,decide_eq_true_eq];constructor
  ·rintro ⟨k1,k2,k3,k4,k5⟩;exact⟨k2,k4,k5⟩
  ·rintro ⟨k2,k4,k5⟩;exact⟨by omega,k2,h1,k4,k5⟩
 ·rw[if_neg c2]
  by_cases c3:r.pc=3
  ·rw[if_pos c3,if_neg (by omega),if_neg c2];obtain⟨o,n,y0,mx⟩:=a6c h.f0 h.f1;obtain⟨g1,g2,g3,g4,g5,g6⟩:=(Cal.a2K _ _ _).1 o;rw[b6c h.e1 h.e2 100 _ _ x y0 (by omega) g3 g4 (by omega) h0 h1,Bool.and_eq_true,decide_eq_true_eq,decide_eq_true_eq];obtain⟨ox,nx,yx,mxx⟩:=a6c h0 h1;constructor
   ·rintro ⟨k1,k2,k3⟩;refine⟨?_,k1,k3⟩
    by_cases e:12*Cal.yT r.fr+Cal.mT r.fr=12*Cal.yT x+Cal.mT x
    ·obtain⟨j1,j2,j3,j4,j5,j6⟩:=(Cal.a2K _ _ _).1 ox;have e1:Cal.yT r.fr=Cal.yT x:=by omega
     have e2:Cal.mT r.fr=Cal.mT x:=by omega
     rw[e1,e2,<- k1] at n;omega
    ·have:=a8c o ox (by omega);omega
   ·rintro ⟨k1,k2,k3⟩;refine⟨k2,?_,k3⟩;apply Classical.byContradiction;intro c;have:=a8c ox o (by omega);omega
  ·rw[if_neg c3,if_pos (by omega),b6d h.e1 800 _ x (by omega),decide_eq_true_eq];constructor
   ·rintro ⟨k1,k2,k3⟩;exact⟨k1,k3⟩
   ·rintro ⟨k1,k3⟩;exact⟨k1,h1,k3⟩
theorem b1t(h:l.Pairwise (· < ·))(b x:Int):x∈l.takeWhile (fun d=>decide (d<=b))↔x∈l/\x<=b:=by
 induction l with
 |nil=>simp
 |cons d l ih =>
  rw[List.pairwise_cons] at h;rw[List.takeWhile_cons]
  by_cases c:d<=b
  ·simp only[c,decide_true,if_true,List.mem_cons,ih h.2];constructor
   ·rintro (rfl|⟨k1,k2⟩)
    ·exact⟨.inl rfl,c⟩
    ·exact⟨.inr k1,k2⟩
   ·rintro ⟨rfl|k1,k2⟩
    ·exact .inl rfl
    ·exact .inr ⟨k1,k2⟩
  ·simp only[c,decide_false,Bool.false_eq_true,if_false,List.not_mem_nil,false_iff,List.mem_cons];rintro ⟨rfl|k1,k2⟩
   ·exact c k2
   ·have:=h.1 x k1;omega
theorem c3T{r:a0Y}(h:a6s r)(hb:b<728):(seq r).takeWhile (fun d=>decide (d<=b))=(all r).filter (fun d=>decide (d<=b)):=by
 refine b8Z ?_ ?_ (fun x=>?_)
 ·exact List.Pairwise.sublist (List.takeWhile_sublist _) (c3S h)
 ·exact List.Pairwise.filter _ (a3X _ _ _)
 ·rw[b1t (c3S h),List.mem_filter,b5H h,decide_eq_true_eq];have f0:=h.f0
  have low:x∈seq r->0<=x:=by
   intro hx;unfold seq at hx
   split at hx
   ·have:=(b4F h.e1 _ _).2 x hx;omega
   ·split at hx
    ·have o:=(a6c h.f0 h.f1);obtain⟨g1,g2,g3,g4,g5,g6⟩:=(Cal.a2K _ _ _).1 o.1;obtain⟨y',m',o',rfl,k⟩:=(b4G h.e1 _ _ _ g3 g4).2 x hx
     by_cases e:12*Cal.yT r.fr+Cal.mT r.fr=12*y'+m'
     ·obtain⟨j1,j2,j3,j4,j5,j6⟩:=(Cal.a2K _ _ _).1 o';have e1:Cal.yT r.fr=y':=by omega
      have e2:Cal.mT r.fr=m':=by omega
      rw[<- e1,<- e2,o.2.1];omega
     ·have:=a8c o.1 o' (by omega);have:=o.2.1;omega
    ·have:=(b4H h.e1 _ _).2 x hx;omega
  constructor
  ·rintro ⟨k1,k2⟩;have k0:=low k1;obtain⟨k3,k4⟩:=(b9A h k0 (by omega)).1 k1;exact⟨⟨k3,by omega,k4⟩,k2⟩
  ·rintro ⟨⟨k1,k2,k3⟩,k4⟩;exact⟨(b9A h (by omega) k2).2 ⟨k1,k3⟩,k4⟩
theorem c4L{r:a0Y}(h:a6s r):(seq r).takeWhile (fun d=>decide (d<=727))=all r:=by
 rw[c3T h (by omega)];exact List.filter_eq_self.2 (fun x hx=>by have:=(b5H h x).1 hx;simp;omega)
def a0t(r:a0Y):List Int:=if 0<r.ti then ((seq r).takeWhile (fun d=>decide (d<=727))).take r.ti.toNat else ((seq r).takeWhile (fun d=>decide (d<=r.un))).take 41
def b4L(r:a0Y)(l:List Int)(d:Int):List Int:=if has r d/\((r.ti=0/\d<=r.un)\/(0<r.ti/\(l.length:Int)<r.ti)) then l++[d] else l
def a4Y(r:a0Y):Nat->Int->List Int->List Int
 |0,_,l=>l
 |k+1,d,l=>a4Y r k (d+1) (b4L r l d)
theorem a7Y{r:a0Y}(h:r.ti=0):∀ (k:Nat)(d:Int)(l:List Int),a4Y r k d l=l++(a1p (has r) k d).filter (fun d=>decide (d<=r.un))
 |0,d,l=>by simp[a4Y,a1p]
 |k+1,d,l=>by
  simp only[a4Y,a1p];rw[a7Y h k (d+1)];unfold b4L
  by_cases c:has r d=true
  ·rw[if_pos c,List.filter_cons]
   by_cases c2:d<=r.un
   ·rw[if_pos ⟨c,.inl ⟨h,c2⟩⟩,if_pos (by simp[c2])];simp
   ·rw[if_neg (by omega),if_neg (by simp[c2])]
  ·rw[if_neg c,if_neg (fun e=>c e.1)]
theorem a3e{r:a0Y}(h:0<r.ti):∀ (k:Nat)(d:Int)(l:List Int),(l.length:Int)<=r.ti->a4Y r k d l=l++(a1p (has r) k d).take (r.ti.toNat-l.length)
 |0,d,l,_=>by simp[a4Y,a1p]
 |k+1,d,l,hl=>by
  simp only[a4Y,a1p];unfold b4L
  by_cases c:has r d=true
  ·rw[if_pos c]
   by_cases c2:(l.length:Int)<r.ti
   ·rw[if_pos ⟨c,.inr ⟨h,c2⟩⟩,a3e h k (d+1) _ (by simp;omega)];have e:r.ti.toNat-l.length=(r.ti.toNat-(l++[d]).length)+1:=by simp;omega
    rw[e,List.take_succ_cons];simp
   ·rw[if_neg (by omega),a3e h k (d+1) _ hl];have e:r.ti.toNat-l.length=0:=by omega
    rw[e];simp
  ·rw[if_neg c,if_neg (fun e=>c e.1),a3e h k (d+1) _ hl]
def a0E(r:a0Y):List Int:=a4Y r (728-r.fr).toNat r.fr []
theorem a7N{r:a0Y}(h:a6s r):a0E r=if 0<r.ti then (all r).take r.ti.toNat else (all r).filter (fun d=>decide (d<=r.un)):=by
 have t0:=h.t0;unfold a0E
 split
 ·rw[a3e (by assumption) _ _ _ (by simp;omega)];simp[all]
 ·rw[a7Y (by omega)];simp[all]
theorem b3M{r:a0Y}(h:a6s r):a0t r=if 0<r.ti then a0E r else (a0E r).take 41:=by
 rw[a7N h];unfold a0t
 split
 ·rw[c4L h]
 ·rw[c3T h h.u1]
def a8m(r:a0Y)(d:Int):Bool:=decide (1048320<d*1440+r.mn+r.mi)
def a6W(r:a0Y):Int :=
 if 40<(a0E r).length\/40<r.ti then 11 else if a0E r=[]\/((a0E r).length:Int)<r.ti then 6 else if (a0E r).any (a8m r) then 6 else 0
def a0L(r:a0Y):Int :=
 if 40<r.ti then 11 else if 40<(a0t r).length then 11 else if a0t r=[]\/((a0t r).length:Int)<r.ti then 6 else if a8m r ((a0t r).getLastD 0) then 6 else 0
theorem b0X{r:a0Y}(h:a6s r):(a0E r).Pairwise (· < ·):=by
 rw[a7N h]
 split
 ·exact List.Pairwise.sublist (List.take_sublist _ _) (a3X _ _ _)
 ·exact List.Pairwise.filter _ (a3X _ _ _)
theorem a4x{r:a0Y}(h:a6s r)(hx:x∈a0E r):r.fr<=x/\x<728:=by
 rw[a7N h] at hx
 have:x∈all r:=by
  split at hx
  ·exact List.mem_of_mem_take hx
  ·exact (List.mem_filter.1 hx).1
 have:=(b5H h x).1 this;exact⟨this.1,this.2.1⟩
theorem a5c{r:a0Y}:∀ {l:List Int},l.Pairwise (· < ·)->l≠[]->l.any (a8m r)=a8m r (l.getLastD 0)
 |[],_,h=>absurd rfl h
 |[d],_,_=>by simp
 |d :: e :: l,h,_=>by
  rw[List.pairwise_cons] at h;have ih:=a5c (r:=r) (l:=e :: l) h.2 (by simp);rw[List.any_cons,ih];have e1:(d :: e :: l).getLastD 0=(e :: l).getLastD 0:=by simp[List.getLastD]
  rw[e1]
  cases hb:a8m r d
  ·simp
  ·have hm:(e :: l).getLastD 0∈e :: l:=by
    have:(e :: l).getLastD 0=(e :: l).getLast (by simp):=by simp[List.getLastD]
    rw[this];exact List.getLast_mem _
   have:=h.1 _ hm;simp only[a8m,decide_eq_true_eq] at hb;simp only[a8m,Bool.true_or];exact (decide_eq_true (by omega)).symm
theorem a5K{r:a0Y}(h:a6s r):a0L r=a6W r/\(a6W r=0->a0t r=a0E r/\a0E r≠[]/\(a0E r).length<=40/\∀ d∈a0E r,d*1440+r.mn+r.mi<=1048320):=by
 have ds:=b3M h;have up:=b0X h;have t0:=h.t0
 have fin:∀ {l:List Int},l≠[]->¬ l.any (a8m r)=true->∀ d∈l,d*1440+r.mn+r.mi<=1048320:=by
  intro l _ hn d hd;apply Classical.byContradiction;intro c;exact hn (List.any_eq_true.2 ⟨d,hd,by simp only[a8m,decide_eq_true_eq];omega⟩)
 unfold a0L a6W
 by_cases c:0<r.ti
 ·rw[if_pos c] at ds;rw[ds]
  by_cases c1:40<r.ti
  ·rw[if_pos c1,if_pos (.inr c1)];exact⟨rfl,fun e=>by omega⟩
  ·rw[if_neg c1]
   by_cases c2:40<(a0E r).length
   ·rw[if_pos c2,if_pos (.inl c2)];exact⟨rfl,fun e=>by omega⟩
   ·have cm:¬ (40<(a0E r).length\/40<r.ti):=by omega
    rw[if_neg c2,if_neg cm]
    by_cases c3:a0E r=[]\/((a0E r).length:Int)<r.ti
    ·rw[if_pos c3,if_pos c3];exact⟨rfl,fun e=>by omega⟩
    ·have hne:a0E r≠[]:=fun e=>c3 (.inl e)
     rw[if_neg c3,if_neg c3,a5c up hne];refine⟨rfl,fun e=>⟨rfl,hne,by omega,fin hne ?_⟩⟩;rw[a5c up hne];intro hl;rw[if_pos hl] at e;omega
 ·rw[if_neg c] at ds;have ct:¬ 40<r.ti:=by omega
  rw[ds,if_neg ct]
  by_cases c2:40<(a0E r).length
  ·have:40<((a0E r).take 41).length:=by rw[List.length_take];omega
   rw[if_pos this,if_pos (.inl c2)];exact⟨rfl,fun e=>by omega⟩
  ·have e41:(a0E r).take 41=a0E r:=List.take_of_length_le (by omega);have cm:¬ (40<(a0E r).length\/40<r.ti):=by omega
   rw[e41,if_neg c2,if_neg cm]
   by_cases c3:a0E r=[]\/((a0E r).length:Int)<r.ti
   ·rw[if_pos c3,if_pos c3];exact⟨rfl,fun e=>by omega⟩
   ·have hne:a0E r≠[]:=fun e=>c3 (.inl e)
    rw[if_neg c3,if_neg c3,a5c up hne];refine⟨rfl,fun e=>⟨rfl,hne,by omega,fin hne ?_⟩⟩;rw[a5c up hne];intro hl;rw[if_pos hl] at e;omega
def a2M(r:a0Y)(l:List Int):List (Int × Int):=l.map fun d=>(d*1440+r.mn,d*1440+r.mn+r.mi)
end Rd
open Go.RowKit
namespace Desk
def a2r(name:ByteArray)(es:List Ent)(a b:Int)(m x:Int):Int:=if a<x/\x<b/\m<a0o name x es then a0o name x es else m
def a1Q(name:ByteArray)(es:List Ent)(a b:Int):Int:=(a2L name es).foldl (a2r name es a b) (a0o name a es)
end Desk
namespace Desk
def b5k:List Ent->List Int
 |[]=>[]
 |e :: r=>e.a0e.map (·.2)++b5k r
def a3O(ts:List (ByteArray × Int))(es:List Ent)(name:ByteArray)(a0c long fr til best s:Int):Int :=
 if s<fr\/til<s+long\/(0<=best/\best<=s) then best else if a1e ts es name a0c [(s,s+long)] then s else best
def a9A(ts:List (ByteArray × Int))(es:List Ent)(name:ByteArray)(a0c long fr til:Int):Int:=(fr :: b5k es).foldl (a3O ts es name a0c long fr til) (-1)
end Desk
namespace Desk
def a5V(a x:Int):List Int->Int
 |[]=>a
 |s :: r=>if s<=x/\a5V a x r<s then s else a5V a x r
theorem a6N(a x:Int)(h:a<=x):∀ l:List Int,a<=a5V a x l/\a5V a x l<=x/\(a5V a x l=a\/a5V a x l∈l)/\∀ s∈l,s<=x->s<=a5V a x l
 |[]=>⟨Int.le_refl _,h,.inl rfl,by simp⟩
 |s :: r=>by
  obtain⟨h1,h2,h3,h4⟩:=a6N a x h r;simp only[a5V]
  split
  ·rename_i c
   refine⟨by omega,c.1,.inr (by simp),fun t ht k=>?_⟩;rcases List.mem_cons.1 ht with rfl|ht
   ·omega
   ·have:=h4 t ht k;omega
  ·rename_i c
   refine⟨h1,h2,?_,fun t ht k=>?_⟩
   ·rcases h3 with h3|h3
    ·exact .inl h3
    ·exact .inr (by simp[h3])
   ·rcases List.mem_cons.1 ht with rfl|ht
    ·omega
    ·exact h4 t ht k
theorem a5Y(hyx:y<=x)(h:∀ s∈L,s.1<=x->s.1<=y):a0r L x<=a0r L y:=by
 unfold a0r;rw[<- List.countP_eq_length_filter,<- List.countP_eq_length_filter]
 have:List.countP (hasB x) L<=List.countP (hasB y) L:=List.countP_mono_left (fun s hs hb=>by
  simp[hasB] at hb ⊢;have:=h s hs hb.1
  omega)
 omega
def Pos(es:List Ent):Prop:=∀ e∈es,0<=e.a0c
theorem a5Z{name:ByteArray}(hyx:y<=x):∀ {es:List Ent},Pos es->(∀ s∈a2L name es,s<=x->s<=y)->a0o name x es<=a0o name y es
 |[],_,_=>Int.le_refl _
 |e :: r,hp,h=>by
  have ih:=a5Z (name:=name) hyx (es:=r) (fun z hz=>hp z (by simp[hz])) (fun s hs=>h s (by simp[a2L,hs]));simp only[a0o]
  by_cases hb:ofB name e=true
  ·rw[if_pos hb,if_pos hb];have hs:a0y e.a0k name=true:=by simp[ofB] at hb;exact hb.1
   have hm:a0r e.a0e x<=a0r e.a0e y:=a5Y hyx (fun s hs' hx=>h s.1 (by simp[a2L,hs];exact .inl ⟨s.2,hs'⟩) hx);have hu:=hp e (by simp);have:a0r e.a0e x*e.a0c<=a0r e.a0e y*e.a0c:=Int.mul_le_mul_of_nonneg_right hm hu;omega
  ·rw[if_neg hb,if_neg hb];omega
theorem a4d{name:ByteArray}(hp:Pos es)(hu:0<=a0c):
  a1e ts es name a0c L=true↔∀ x,0<a0r L x->a0o name x es+a0r L x*a0c<=a0h name ts:=by
 constructor
 ·intro h x hx
  have hex:∃ s∈L,s.1<=x/\x<s.2:=by
   unfold a0r at hx;have hl:0<(L.filter (hasB x)).length:=by omega
   obtain⟨s,hs⟩:=List.exists_mem_of_length_pos hl;have:=List.mem_filter.1 hs;simp[hasB] at this;exact⟨s,this.1,this.2⟩
  obtain⟨s0,hs0,k1,k2⟩:=hex;obtain⟨h1,h2,h3,h4⟩:=a6N s0.1 x k1 (a2L name es++L.map (·.1));generalize a5V s0.1 x (a2L name es++L.map (·.1))=y at h1 h2 h3 h4
  have hy:y∈a2L name es++L.map (·.1):=by
   rcases h3 with rfl|h3
   ·simp;exact .inr ⟨s0.2,hs0⟩
   ·exact h3
  have ht:=a5Z (name:=name) (es:=es) h2 hp (fun s hs=>h4 s (by simp[hs]));have hm:a0r L x<=a0r L y:=a5Y h2 (fun s hs=>h4 s.1 (by simp;exact .inr ⟨s.2,hs⟩));have hh:=List.all_eq_true.1 h y hy;simp[c4T] at hh;have hx':0<a0r L y:=by omega
  have hmu:a0r L x*a0c<=a0r L y*a0c:=Int.mul_le_mul_of_nonneg_right hm hu;omega
 ·intro h;unfold a1e c4e;rw[List.all_eq_true];intro x _;simp[c4T]
  by_cases hx:0<a0r L x
  ·exact .inr (h x hx)
  ·exact .inl (by omega)
end Desk
namespace Desk
def a1C(name:ByteArray):List Ent->List Bool->Int
 |[],_=>0
 |e :: r,p=>(if ofB name e then e.a0c*cnt e.a0e p else 0)+a1C name r p
theorem a8S(name:ByteArray)(l r:List Ent)(p:List Bool):a1C name (l++r) p=a1C name l p+a1C name r p:=by
 induction l with
 |nil=>simp[a1C]
 |cons e l ih=>simp only[List.cons_append,a1C,ih];omega
theorem b9s{name:ByteArray}(h:ofB name e=true):a1z (a1C name es) e.a0e e.a0c=a1C name (es++[e]):=by
 funext p
 simp only[a1z,a8S,a1C,h,if_true];omega
theorem a7X{name:ByteArray}(h:ofB name e=false):a1C name (es++[e])=a1C name es:=by
 funext p
 simp[a8S,a1C,h]
theorem a7j(name:ByteArray)(p:List Bool):∀ es:List Ent,(∀ e∈es,Small e)->0<=a1C name es p/\a1C name es p<=900*es.length
 |[],_=>by simp[a1C]
 |e :: r,h=>by
  have i:=a7j name p r (fun x hx=>h x (by simp[hx]));have s:=h e (by simp);have b:=b3P e.a0e p;have sl:=s.sl;have c:0<=e.a0c*cnt e.a0e p:=Int.mul_nonneg s.u0 b.1;have d:e.a0c*cnt e.a0e p<=9*100:=Int.mul_le_mul s.u1 (by omega) b.1 (by omega);simp only[a1C,List.length_cons]
  split <;> omega
theorem Small.pos(h:∀ e∈es,Small e):Pos es:=fun e he=>(h e he).u0
def a9U(es:List Ent):Prop:=∀ e∈es,∀ s∈e.a0e,s.1<s.2
theorem a4a(name:ByteArray)(h0:0<=x)(h1:x<1048320):∀ es:List Ent,a9U es->b0i (a1C name es) x=a0o name x es
 |[],_=>by
  have:a1C name []=fun _=>0:=by funext p;rfl
  rw[this];exact Lev.b0h 20 0 1048320 x
 |e :: r,h=>by
  have ih:=a4a name h0 h1 r (fun z hz=>h z (by simp[hz]))
  by_cases hb:ofB name e=true
  ·have:a1C name (e :: r)=a1z (a1C name r) e.a0e e.a0c:=by funext p;simp only[a1C,a1z,hb,if_true];omega
   rw[this,b0G _ _ _ _ h0 h1 (h e (by simp)),ih];simp only[a0o,hb,if_true];have:((e.a0e.filter fun s=>decide (s.1<=x) && decide (x<s.2)).length:Int)=a0r e.a0e x:=rfl;rw[this,Int.mul_comm];omega
  ·have hb':ofB name e=false:=by simpa using hb
   have:a1C name (e :: r)=a1C name r:=by funext p;simp[a1C,hb']
   rw[this,ih];simp[a0o,hb']
theorem b8v{name:ByteArray}{u:Int}(hs:∀ e∈es,Small e)(hsp:a9U es)(hL:c1P L)(hu:0<=u)(hun:a0h name ts=a0c):
  a2V (a1z (a1C name es) L u) a0c L=a1e ts es name u L:=by
 have hA:∀ p,0<=a1z (a1C name es) L u p:=fun p=>by
  have:=(a7j name p es hs).1;have:=(b3P L p).1;have:0<=u*cnt L p:=Int.mul_nonneg hu this;unfold a1z;omega
 have hlev:∀ x,0<=x->x<1048320->b0i (a1z (a1C name es) L u) x=a0o name x es+a0r L x*u:=by
  intro x h0 h1;rw[b0G _ _ _ _ h0 h1 (fun s hs=>(hL s hs).2.1),a4a name h0 h1 es hsp];have:((L.filter fun s=>decide (s.1<=x) && decide (x<s.2)).length:Int)=a0r L x:=rfl;rw[this,Int.mul_comm]
 rw[Bool.eq_iff_iff,a4d (Small.pos hs) hu,hun];unfold a2V;rw[List.all_eq_true];constructor
 ·intro h x hx;have hl:0<(L.filter (hasB x)).length:=by unfold a0r at hx;omega
  obtain⟨s,hm⟩:=List.exists_mem_of_length_pos hl;have hm:=List.mem_filter.1 hm;have hb:=hm.2;simp[hasB] at hb;have k:=hL s hm.1;have:=of_decide_eq_true (h s hm.1);have m:=(b1G hA k.1 k.2.1 k.2.2).1 x hb.1 hb.2;rw[hlev x (by omega) (by omega)] at m;omega
 ·intro h s hs';have k:=hL s hs';obtain⟨_,x,m1,m2,m3⟩:=b1G hA k.1 k.2.1 k.2.2;rw[hlev x (by omega) (by omega)] at m3
  have hpos:0<a0r L x:=by
   unfold a0r;have:s∈L.filter (hasB x):=List.mem_filter.2 ⟨hs',by simp[hasB,m1,m2]⟩;have:=List.length_pos_of_mem this;omega
  have:=h x hpos;exact decide_eq_true (by omega)
def kept(id:Int)(es:List Ent):List Ent:=es.filter fun e=>e.id != id
def a0Q(e:Ent):Ent:={ e with kind:=1,a0Z:=0 }
def a0C(id:Int)(es:List Ent):List Ent:=es.map fun e=>if e.id=id then a0Q e else e
def Ids(es:List Ent):Prop:=(es.map (·.id)).Pairwise (· < ·)
theorem Ids.cons{r:List Ent}(h:Ids (e :: r)):(∀ z∈r,e.id<z.id)/\Ids r:=by
 unfold Ids at h ⊢;rw[List.map_cons,List.pairwise_cons] at h;exact⟨fun z hz=>h.1 z.id (List.mem_map.2 ⟨z,hz,rfl⟩),h.2⟩
theorem Ids.one(h:Ids es):∀ {x y:Ent},x∈es->y∈es->x.id=y.id->x=y:=by
 induction es with
 |nil=>intro x y hx;simp at hx
 |cons e r ih =>
  intro x y hx hy e1;obtain⟨h1,h2⟩:=h.cons;rcases List.mem_cons.1 hx with hx|hx
  ·rcases List.mem_cons.1 hy with hy|hy
   ·rw[hx,hy]
   ·have:=h1 y hy;rw[hx] at e1;omega
  ·rcases List.mem_cons.1 hy with hy|hy
   ·have:=h1 x hx;rw[hy] at e1;omega
   ·exact ih h2 hx hy e1
theorem a9h(h:∀ e∈es,e.id≠id):kept id es=es:=List.filter_eq_self.2 (fun e he=>by simp[h e he])
theorem a4A:∀ {es:List Ent},(∀ e∈es,e.id≠id)->a0C id es=es
 |[],_=>rfl
 |e :: r,h=>by
  have i:=a4A (id:=id) (es:=r) (fun z hz=>h z (by simp[hz]));unfold a0C at i ⊢;rw[List.map_cons,i,if_neg (h e (by simp))]
theorem b8M(es:List Ent):(a0C id es).map (·.id)=es.map (·.id):=by
 unfold a0C;rw[List.map_map];apply List.map_congr_left;intro e _;show (if e.id=id then a0Q e else e).id=e.id
 split <;> rfl
theorem b1e(h:Ids es):Ids (a0C id es):=by
 unfold Ids at *;rw[b8M];exact h
theorem a8Q{name:ByteArray}(hb:ofB name e=true):∀ {es:List Ent},Ids es->e∈es->a1z (a1C name es) e.a0e (-e.a0c)=a1C name (kept e.id es)
 |[],_,h=>by simp at h
 |z :: r,hi,h=>by
  obtain⟨h1,h2⟩:=hi.cons
  funext p
  by_cases c:z.id=e.id
  ·have ez:e=z:=hi.one h (by simp) c.symm;subst ez
   have:kept e.id (e :: r)=r:=by
    have k:=a9h (id:=e.id) (es:=r) (fun y hy=>by have:=h1 y hy;omega);unfold kept at k ⊢;rw[List.filter_cons,if_neg (by simp),k]
   rw[this];simp only[a1z,a1C,hb,if_true];rw[Int.neg_mul];omega
  ·have he:e∈r:=by
    rcases List.mem_cons.1 h with rfl|h
    ·exact absurd rfl c
    ·exact h
   have i:=congrFun (a8Q hb h2 he) p
   have:kept e.id (z :: r)=z :: kept e.id r:=by
    unfold kept;rw[List.filter_cons,if_pos (by simpa using c)]
   rw[this];simp only[a1z,a1C] at i ⊢;omega
theorem a4S{name:ByteArray}:∀ {es:List Ent},(∀ e∈es,e.id=id->ofB name e=false)->a1C name (kept id es)=a1C name es
 |[],_=>rfl
 |z :: r,h=>by
  have i:=a4S (name:=name) (id:=id) (es:=r) (fun y hy=>h y (by simp[hy]))
  funext p
  have i:=congrFun i p;unfold kept at i ⊢;rw[List.filter_cons]
  by_cases c:z.id=id
  ·rw[if_neg (by simp[c])];simp only[a1C,h z (by simp) c,Bool.false_eq_true,if_false];rw[i];omega
  ·rw[if_pos (by simpa using c)];simp only[a1C,i]
theorem a3I{name:ByteArray}:ofB name (a0Q e)=a0y e.a0k name:=by
 simp[ofB,a0Q]
theorem a8R{name:ByteArray}(hn:a0y e.a0k name=true)(hk:e.kind=3):∀ {es:List Ent},Ids es->e∈es->a1z (a1C name es) e.a0e e.a0c=a1C name (a0C e.id es)
 |[],_,h=>by simp at h
 |z :: r,hi,h=>by
  obtain⟨h1,h2⟩:=hi.cons
  funext p
  by_cases c:z.id=e.id
  ·have ez:e=z:=hi.one h (by simp) c.symm;subst ez
   have:a0C e.id (e :: r)=a0Q e :: r:=by
    have k:=a4A (id:=e.id) (es:=r) (fun y hy=>by have:=h1 y hy;omega);unfold a0C at k ⊢;rw[List.map_cons,if_pos rfl,k]
   rw[this];have o1:ofB name e=false:=by simp[ofB,hk]
   simp only[a1z,a1C,o1,a3I,hn,if_true,Bool.false_eq_true,if_false];show 0+a1C name r p+e.a0c*cnt e.a0e p=e.a0c*cnt e.a0e p+a1C name r p;omega
  ·have he:e∈r:=by
    rcases List.mem_cons.1 h with rfl|h
    ·exact absurd rfl c
    ·exact h
   have i:=congrFun (a8R hn hk h2 he) p
   have:a0C e.id (z :: r)=z :: a0C e.id r:=by
    unfold a0C;rw[List.map_cons,if_neg c]
   rw[this];simp only[a1z,a1C] at i ⊢;omega
theorem a3Q{name:ByteArray}:∀ {es:List Ent},(∀ e∈es,e.id=id->a0y e.a0k name=true->e.kind≠3)->a1C name (a0C id es)=a1C name es
 |[],_=>rfl
 |z :: r,h=>by
  have i:=a3Q (name:=name) (id:=id) (es:=r) (fun y hy=>h y (by simp[hy]))
  funext p
  have i:=congrFun i p;unfold a0C at i ⊢;rw[List.map_cons];simp only[a1C,i]
  by_cases c:z.id=id
  ·rw[if_pos c,a3I]
   have e:ofB name z=a0y z.a0k name:=by
    unfold ofB
    cases hs:a0y z.a0k name
    ·rfl
    ·have:=h z (by simp) c hs;simp[this]
   rw[e];rfl
  ·rw[if_neg c]
theorem a4r:e∈kept id es↔e∈es/\e.id≠id:=by simp[kept]
theorem a2b:e∈a0C id es↔(e∈es/\e.id≠id)\/∃ z∈es,z.id=id/\e=a0Q z:=by
 unfold a0C;rw[List.mem_map];constructor
 ·rintro ⟨z,hz,h⟩
  by_cases c:z.id=id
  ·rw[if_pos c] at h;exact .inr ⟨z,hz,c,h.symm⟩
  ·rw[if_neg c] at h;subst h;exact .inl ⟨hz,c⟩
 ·rintro (⟨h1,h2⟩|⟨z,hz,h1,h2⟩)
  ·exact⟨e,h1,if_neg h2⟩
  ·exact⟨z,hz,by rw[if_pos h1,h2]⟩
end Desk
namespace Desk
def a8l(a b:Int)(s:Int × Int):Bool:=decide (s.1<b) && decide (a<s.2)
def a2E(a b:Int):List (Int × Int)->Int
 |[]=>-1
 |s :: r=>if a8l a b s then s.1 else a2E a b r
end Desk
theorem b6Q:(Tryz.prog.info? 60).map (fun i=>(i.zero,i.size,i.bytes))=some (some (.agg #[.int .i64 0,.int .i64 0]),2,16):=by kernel_rfl
namespace Desk
def b7U(name:ByteArray)(a b:Int)(e:Ent):Bool:=ofB name e && decide (0<=a2E a b e.a0e)
end Desk
namespace Rank
def before(fs:List Int)(k i:Nat):Bool:=decide (fs.getD k 0<fs.getD i 0) || (decide (fs.getD k 0=fs.getD i 0) && decide (k<i))
end Rank
namespace Rank
end Rank
namespace Desk
def ltE(a b:Int)(x y:Ent):Prop:=a2E a b x.a0e<a2E a b y.a0e\/(a2E a b x.a0e=a2E a b y.a0e/\x.id<y.id)
theorem b8e(a b:Int)(x:Ent):¬ ltE a b x x:=by unfold ltE;omega
theorem b3b(a b:Int)(x y z:Ent)(h:ltE a b x y)(k:ltE a b y z):ltE a b x z:=by unfold ltE at *;omega
def a2c(L:List (Int × Int)):Prop:=L.Pairwise fun s t=>s.1<t.1
theorem a9y:∀ {L:List (Int × Int)},a2c L->(∃ s∈L,a8l a b s=true)->(∃ s∈L,a8l a b s=true/\s.1=a2E a b L)/\∀ t∈L,a8l a b t=true->a2E a b L<=t.1
 |[],_,h=>by obtain⟨s,hs,_⟩:=h;simp at hs
 |s :: r,hr,h=>by
  unfold a2c at hr;rw[List.pairwise_cons] at hr;simp only[a2E]
  by_cases c:a8l a b s=true
  ·rw[if_pos c];refine⟨⟨s,by simp,c,rfl⟩,fun t ht _=>?_⟩;rcases List.mem_cons.1 ht with rfl|ht
   ·omega
   ·have:=hr.1 t ht;omega
  ·rw[if_neg c]
   have h':∃ s∈r,a8l a b s=true:=by
    obtain⟨t,ht,k⟩:=h;rcases List.mem_cons.1 ht with rfl|ht
    ·exact absurd k c
    ·exact⟨t,ht,k⟩
   obtain⟨⟨t,k1,k2,k3⟩,k4⟩:=a9y (a:=a) (b:=b) (L:=r) hr.2 h';refine⟨⟨t,by simp[k1],k2,k3⟩,fun u hu hm=>?_⟩;rcases List.mem_cons.1 hu with rfl|hu
   ·exact absurd hm c
   ·exact k4 u hu hm
theorem a9x:∀ {L:List (Int × Int)},(∀ s∈L,a8l a b s=false)->a2E a b L=-1
 |[],_=>rfl
 |s :: r,h=>by
  simp only[a2E];rw[if_neg (by rw[h s (by simp)];simp)];exact a9x (fun t ht=>h t (by simp[ht]))
theorem a7J(hr:a2c L)(h0:∀ s∈L,0<=s.1):0<=a2E a b L↔∃ s∈L,a8l a b s=true:=by
 constructor
 ·intro h;apply Classical.byContradiction;intro c
  have:a2E a b L=-1:=a9x (fun s hs=>by
   cases hb:a8l a b s
   ·rfl
   ·exact absurd ⟨s,hs,hb⟩ c)
  omega
 ·intro h;obtain⟨⟨s,k1,_,k3⟩,_⟩:=a9y hr h;have:=h0 s k1;omega
def a5s(acc:List Avl.It)(z:Avl.It):List Avl.It:=if acc.any fun u=>decide (u.n=z.n) then acc else acc++[z]
def uniq(M:List Avl.It):List Avl.It:=M.foldl a5s []
theorem a6u(M:List Avl.It)(z:Avl.It):uniq (M++[z])=a5s (uniq M) z:=by unfold uniq;rw[List.foldl_append];rfl
theorem c4t:∀ (n:Nat)(M:List Avl.It),M.length=n->Avl.Ord M->Avl.Ord (uniq M)/\(∀ u∈uniq M,u∈M)/\(∀ z∈M,∃ u∈uniq M,u.n=z.n/\(u=z\/Avl.lt u z))/\((uniq M).map (·.n)).Nodup:=by
 intro n
 induction n with
 |zero =>
  intro M hM _;rw[List.length_eq_zero_iff.1 hM];exact⟨List.Pairwise.nil,by simp[uniq],by simp,by simp[uniq]⟩
 |succ n ih =>
  intro M hM hO;obtain⟨K,z,rfl⟩:∃ K z,M=K++[z]:=⟨M.dropLast,M.getLast (by intro e;simp[e] at hM),(List.dropLast_concat_getLast _).symm⟩;unfold Avl.Ord at hO;rw[List.pairwise_append] at hO;obtain⟨i1,i2,i3,i4⟩:=ih K (by simpa using hM) hO.1;rw[a6u];unfold a5s
  by_cases c:((uniq K).any fun u=>decide (u.n=z.n))=true
  ·rw[if_pos c];obtain⟨u,hu,hc⟩:=List.any_eq_true.1 c;refine⟨i1,fun u hu=>by simp[i2 u hu],fun y hy=>?_,i4⟩;rcases List.mem_append.1 hy with hy|hy
   ·exact i3 y hy
   ·have:y=z:=by simpa using hy
    subst this;exact⟨u,hu,by simpa using hc,.inr (hO.2.2 u (i2 u hu) y (by simp))⟩
  ·rw[if_neg c];have hno:∀ u∈uniq K,u.n≠z.n:=fun u hu e=>c (List.any_eq_true.2 ⟨u,hu,by simp[e]⟩)
   refine⟨?_,fun u hu=>?_,fun y hy=>?_,?_⟩
   ·unfold Avl.Ord;rw[List.pairwise_append]
    exact⟨i1,by simp,fun u hu y hy=>by
     have:y=z:=by simpa using hy
     subst this
     exact hO.2.2 u (i2 u hu) y (by simp)⟩
   ·rcases List.mem_append.1 hu with hu|hu
    ·simp[i2 u hu]
    ·simp at hu;simp[hu]
   ·rcases List.mem_append.1 hy with hy|hy
    ·obtain⟨u,hu,k⟩:=i3 y hy;exact⟨u,by simp[hu],k⟩
    ·have:y=z:=by simpa using hy
     subst this;exact⟨y,by simp,rfl,.inl rfl⟩
   ·rw[List.map_append,List.nodup_append];refine⟨i4,by simp,fun x hx y hy e=>?_⟩;obtain⟨u,hu,rfl⟩:=List.mem_map.1 hx;simp at hy;exact hno u hu (by rw[e,hy])
def a2e(name:ByteArray)(es:List Ent)(at_:Int->Nat)(T:Avl.S):Prop :=
 Avl.Ord (Avl.a0w T)/\∀ z,z∈Avl.a0w T↔∃ e∈es,ofB name e=true/\∃ s∈e.a0e,z=⟨s.1,s.2,e.id,at_ e.id⟩
theorem c4u{name:ByteArray}{at_:Int->Nat}{T:Avl.S}(h:a2e name es at_ T)(hid:Ids es)(hr:∀ e∈es,a2c e.a0e)(h0:∀ e∈es,∀ s∈e.a0e,0<=s.1){ys:List Ent}(hl:ys.length=(uniq (Avl.meet a b T)).length)(hy:∀ (i:Nat)(hi:i<ys.length),ys[i]∈es/\ys[i].id=((uniq (Avl.meet a b T))[i]'(by omega)).n):
  ys.Pairwise (ltE a b)/\∀ e,e∈ys↔e∈es.filter (b7U name a b):=by
 have hM:=Avl.b1J a b T h.1;have hO:Avl.Ord (Avl.meet a b T):=by rw[hM];exact Avl.b0C _ h.1
 obtain⟨u1,u2,u3,u4⟩:=c4t _ (Avl.meet a b T) rfl hO
 have inM:∀ z,z∈Avl.meet a b T↔∃ e∈es,ofB name e=true/\∃ s∈e.a0e,a8l a b s=true/\z=⟨s.1,s.2,e.id,at_ e.id⟩:=by
  intro z;rw[hM,List.mem_filter,h.2];constructor
  ·rintro ⟨⟨e,k1,k2,s,k3,rfl⟩,k4⟩;exact⟨e,k1,k2,s,k3,k4,rfl⟩
  ·rintro ⟨e,k1,k2,s,k3,k4,rfl⟩;exact⟨⟨e,k1,k2,s,k3,rfl⟩,k4⟩
 -- each item that is kept stands at its entry's first
 have fst:∀ u∈uniq (Avl.meet a b T),∀ e∈es,e.id=u.n->ofB name e=true/\u.f=a2E a b e.a0e/\∃ s∈e.a0e,a8l a b s=true:=by
  intro u hu e he hn;obtain⟨e',k1,k2,s,k3,k4,rfl⟩:=(inM u).1 (u2 u hu);have:e=e':=hid.one he k1 hn;subst this;refine⟨k2,?_,s,k3,k4⟩;obtain⟨⟨t,t1,t2,t3⟩,t4⟩:=a9y (hr e he) ⟨s,k3,k4⟩;have hle:=t4 s k3 k4;obtain⟨u',hu',m1,m2⟩:=u3 ⟨t.1,t.2,e.id,at_ e.id⟩ ((inM _).2 ⟨e,he,k2,t,t1,t2,rfl⟩)
  have same:u'=⟨s.1,s.2,e.id,at_ e.id⟩:=by
   have hnd:=u4;unfold List.Nodup at hnd;rw[List.pairwise_map] at hnd;apply Classical.byContradiction;intro hne;obtain⟨i,hi,ei⟩:=List.getElem_of_mem hu';obtain⟨j,hj,ej⟩:=List.getElem_of_mem hu;have hij:i≠j:=fun e=>by subst e;exact hne (ei.symm.trans ej)
   rcases Nat.lt_or_gt_of_ne hij with c|c
   ·have:=List.pairwise_iff_getElem.1 hnd i j hi hj c;rw[ei,ej] at this;exact this m1
   ·have:=List.pairwise_iff_getElem.1 hnd j i hj hi c;rw[ei,ej] at this;exact this m1.symm
  subst same;show s.1=_;rcases m2 with m2|m2
  ·have:=congrArg Avl.It.f m2;simp at this;omega
  ·unfold Avl.lt at m2;simp at m2;omega
 have sel:∀ u∈uniq (Avl.meet a b T),∀ e∈es,e.id=u.n->e∈es.filter (b7U name a b):=by
  intro u hu e he hn;obtain⟨k1,_,k3⟩:=fst u hu e he hn;exact List.mem_filter.2 ⟨he,by simp[b7U,k1,(a7J (hr e he) (h0 e he)).2 k3]⟩
 refine⟨?_,fun e=>⟨fun he=>?_,fun he=>?_⟩⟩
 ·rw[List.pairwise_iff_getElem];intro i j hi hj hij;have o:=List.pairwise_iff_getElem.1 u1 i j (by omega) (by omega) hij;obtain⟨a1,a2⟩:=hy i hi;obtain⟨b1,b2⟩:=hy j hj;have f1:=(fst _ (zg (by omega)) _ a1 a2).2.1;have f2:=(fst _ (zg (by omega)) _ b1 b2).2.1;unfold Avl.lt at o;unfold ltE;rw[<- f1,<- f2,a2,b2];exact o
 ·obtain⟨i,hi,rfl⟩:=List.getElem_of_mem he;obtain⟨a1,a2⟩:=hy i hi;exact sel _ (zg (by omega)) _ a1 a2
 ·obtain⟨he1,he2⟩:=List.mem_filter.1 he;simp only[b7U,Bool.and_eq_true,decide_eq_true_eq] at he2;obtain⟨s,s1,s2⟩:=(a7J (hr e he1) (h0 e he1)).1 he2.2;obtain⟨u,hu,m1,_⟩:=u3 _ ((inM _).2 ⟨e,he1,he2.1,s,s1,s2,rfl⟩);obtain⟨i,hi,ei⟩:=List.getElem_of_mem hu;obtain⟨a1,a2⟩:=hy i (by omega);have:ys[i]'(by omega)=e:=hid.one a1 he1 (by rw[a2,ei];exact m1);rw[<- this];exact zg _
theorem a5J(p:Ent->Bool)(h:Ids es):Ids (es.filter p):=by
 unfold Ids at *;exact List.Pairwise.sublist (List.Sublist.map _ List.filter_sublist) h
end Desk
namespace Desk
theorem a8W{a b:ByteArray}:a0y a b=true↔a.toList=b.toList:=by simp[a0y]
theorem a2u(a:ByteArray):a0y a a=true:=a8W.2 rfl
theorem a8X{a b c:ByteArray}(h:a0y a b=true):a0y c a=a0y c b:=by
 unfold a0y;rw[a8W.1 h]
def c0F(a b:Int)(x:Ent):List Ent->List Ent
 |[]=>[x]
 |y :: r=>if a2E a b x.a0e<a2E a b y.a0e\/(a2E a b x.a0e=a2E a b y.a0e/\x.id<y.id) then x :: y :: r else y :: c0F a b x r
def b2J(a b:Int):List Ent->List Ent
 |[]=>[]
 |x :: r=>c0F a b x (b2J a b r)
theorem b1R{x:Ent}:∀ {l:List Ent},z∈c0F a b x l↔z=x\/z∈l
 |[]=>by simp[c0F]
 |y :: r=>by
  simp only[c0F]
  split
  ·simp
  ·rw[List.mem_cons,b1R,List.mem_cons];constructor
   ·rintro (h|h|h)
    ·exact .inr (.inl h)
    ·exact .inl h
    ·exact .inr (.inr h)
   ·rintro (h|h|h)
    ·exact .inr (.inl h)
    ·exact .inl h
    ·exact .inr (.inr h)
theorem a4U:∀ {l:List Ent},z∈b2J a b l↔z∈l
 |[]=>by simp[b2J]
 |x :: r=>by rw[b2J,b1R,a4U,List.mem_cons]
theorem c0E{x:Ent}:∀ {l:List Ent},l.Pairwise (ltE a b)->(∀ z∈l,z.id≠x.id)->(c0F a b x l).Pairwise (ltE a b)
 |[],_,_=>by simp[c0F]
 |y :: r,h,hn=>by
  rw[List.pairwise_cons] at h;simp only[c0F]
  split
  ·rename_i c
   refine List.pairwise_cons.2 ⟨fun z hz=>?_,List.pairwise_cons.2 h⟩;rcases List.mem_cons.1 hz with rfl|hz
   ·exact c
   ·exact b3b a b x y z c (h.1 z hz)
  ·rename_i c
   refine List.pairwise_cons.2 ⟨fun z hz=>?_,c0E h.2 (fun z hz=>hn z (by simp[hz]))⟩;rcases b1R.1 hz with rfl|hz
   ·have:=hn y (by simp);unfold ltE;omega
   ·exact h.1 z hz
theorem b5V:∀ {l:List Ent},Ids l->(b2J a b l).Pairwise (ltE a b)
 |[],_=>by simp[b2J]
 |x :: r,h=>by
  obtain⟨h1,h2⟩:=h.cons;exact c0E (b5V h2) (fun z hz=>by have:=h1 z (a4U.1 hz);omega)
def a2x(name:ByteArray)(a b:Int)(es:List Ent):List Ent:=b2J a b (es.filter (b7U name a b))
theorem b3f{name:ByteArray}{out:List Ent}(hid:Ids es)(h:out.Pairwise (ltE a b))(hm:∀ e,e∈out↔e∈es.filter (b7U name a b)):out=a2x name a b es :=
 a4i (b8e a b) (b3b a b) h (b5V (a5J _ hid)) (fun e=>(hm e).trans a4U.symm)
def a0O(ts:List (ByteArray × Int)):List Ent->List Ent->List Ent × List Int
 |done,[]=>(done,[])
 |done,e :: r =>
  if e.kind=3/\a1e ts (done++e :: r) e.a0k e.a0c e.a0e=true then
   ((a0O ts (done++[a0Q e]) r).1,e.id :: (a0O ts (done++[a0Q e]) r).2)
  else a0O ts (done++[e]) r
def a0R(ts:List (ByteArray × Int))(es:List Ent):List Ent × List Int:=a0O ts [] es
def a3D(tq:Int):List Ent->Int
 |[]=>tq
 |e :: r=>if e.kind≠1/\e.a0Z<a3D tq r then e.a0Z else a3D tq r
def a0z(t:Int)(e:Ent):Bool:=(e.kind != 1) && decide (e.a0Z=t)
def a1K(ts:List (ByteArray × Int)):Nat->List Ent->Int->Int->List Ent × List Int × List Int
 |0,es,_,_=>(es,[],[])
 |k+1,es,now,tq =>
  if now<tq then
   let t:=a3D tq es
   let g:=a0R ts (es.filter fun e=>!a0z t e)
   let q:=a1K ts k g.1 t tq
   (q.1,(es.filter (a0z t)).map (·.id)++q.2.1,g.2++q.2.2)
  else (es,[],[])
structure St where
 ts:List (ByteArray × Int)
 es:List Ent
 given:Int
 now:Int
structure Rep where
 err:Int
 at_:Int
 n:Int
 entries:List Ent
 days:List Int
 granted:List Int
 ended:List Int
def Rep.error(e:Int):Rep:=⟨e,0,0,[],[],[],[]⟩
def Rep.num(n:Int):Rep:=⟨0,0,n,[],[],[],[]⟩
inductive a7U where
 |a0k (name:ByteArray) (a0c:Int)
 |enter (kind:Int) (name:ByteArray) (a0c fr til long:Int)
 |series (name:ByteArray) (a0c:Int) (r:Rd.a0Y)
 |confirm (id:Int)
 |cancel (id:Int)
 |list (name:ByteArray) (fr til:Int)
 |waiting
 |peak (name:ByteArray) (fr til:Int)
 |find (name:ByteArray) (a0c long fr til:Int)
 |expand (r:Rd.a0Y)
 |tick (n:Int)
 |clock
def a2t(s:St)(e:Ent):St × Rep:=(⟨s.ts,s.es++[{ e with id:=s.given+1 }],s.given+1,s.now⟩,Rep.num (s.given+1))
def a1M(s:St)(kind:Int)(name:ByteArray)(a0c fr til long:Int):Int :=
 if a0S s.ts name a0c≠0 then a0S s.ts name a0c
 else if til<=fr\/1048320<s.now+long then 6
 else if s.given=60 then 5
 else if kind=3 then (if a1Y s.es=6 then 5 else 0)
 else if a1e s.ts s.es name a0c [(fr,til)] then 0 else 8
def a8p(s:St)(kind:Int)(name:ByteArray)(a0c fr til long:Int):Ent:=⟨0,kind,name,a0c,[(fr,til)],if kind=1 then 0 else s.now+long⟩
def a2l(s:St)(name:ByteArray)(a0c:Int)(r:Rd.a0Y):Int :=
 if a0S s.ts name a0c≠0 then a0S s.ts name a0c
 else if Rd.a6W r≠0 then Rd.a6W r
 else if s.given=60 then 5
 else if a1e s.ts s.es name a0c (Rd.a2M r (Rd.a0E r)) then 0 else 8
def a5S(id:Int)(es:List Ent):Option Ent:=es.find? fun e=>decide (e.id=id)
def a0g(s:St):a7U->St × Rep
 |.a0k name a0c=>if a0h name s.ts≠0 then (s,.error 4) else if s.ts.length=4 then (s,.error 5) else ({ s with ts:=s.ts++[(name,a0c)] },.num 0)
 |.enter kind name a0c fr til long=>if a1M s kind name a0c fr til long≠0 then (s,.error (a1M s kind name a0c fr til long)) else a2t s (a8p s kind name a0c fr til long)
 |.series name a0c r=>if a2l s name a0c r≠0 then (s,.error (a2l s name a0c r)) else a2t s ⟨0,1,name,a0c,Rd.a2M r (Rd.a0E r),0⟩
 |.confirm id=>match a5S id s.es with
  |none=>(s,.error 9)
  |some e=>if e.kind≠2 then (s,.error 10) else ({ s with es:=a0C id s.es },.num 0)
 |.cancel id=>match a5S id s.es with
  |none=>(s,.error 9)
  |some _=>({ s with es:=kept id s.es },.num 0)
 |.list name fr til=>if a0h name s.ts=0 then (s,.error 3) else if til<=fr then (s,.error 6) else (s,{ Rep.num 0 with entries:=a2x name fr til s.es })
 |.waiting=>(s,{ Rep.num 0 with entries:=s.es.filter fun e=>e.kind==3 })
 |.peak name fr til=>if a0h name s.ts=0 then (s,.error 3) else if til<=fr then (s,.error 6) else (s,.num (a1Q name s.es fr til))
 |.find name a0c long fr til=>if a0S s.ts name a0c≠0 then (s,.error (a0S s.ts name a0c)) else if til<=fr then (s,.error 6) else (s,.num (a9A s.ts s.es name a0c long fr til))
 |.expand r=>if Rd.a6W r≠0 then (s,.error (Rd.a6W r)) else (s,{ Rep.num (Rd.a0E r).length with days:=Rd.a0E r })
 |.tick n=>if 1048320<s.now+n then (s,.error 6) else
   let q:=a1K s.ts (s.es.length+1) s.es s.now (s.now+n)
   ({ s with es:=q.1,now:=s.now+n },{ Rep.num (s.now+n) with granted:=q.2.2,ended:=q.2.1 })
 |.clock=>(s,.num s.now)
def a1q(s:St)(l:a7U):St × Rep :=
 if (a0g s l).2.err≠0 then a0g s l
 else ({ (a0g s l).1 with es:=(a0R (a0g s l).1.ts (a0g s l).1.es).1 },{ (a0g s l).2 with granted:=(a0g s l).2.granted++(a0R (a0g s l).1.ts (a0g s l).1.es).2 })
def a1O:a7U->Prop
 |.a0k _ u=>1<=u/\u<=9
 |.enter k _ u fr til long=>(k=1/\long=0\/(k=2\/k=3)/\1<=long/\long<=1048320)/\1<=u/\u<=9/\0<=fr/\fr<=1048320/\0<=til/\til<=1048320
 |.series _ u r=>1<=u/\u<=9/\Rd.a6s r
 |.confirm id=>0<=id/\id<=9999999
 |.cancel id=>0<=id/\id<=9999999
 |.list _ fr til=>0<=fr/\fr<=1048320/\0<=til/\til<=1048320
 |.waiting=>True
 |.peak _ fr til=>0<=fr/\fr<=1048320/\0<=til/\til<=1048320
 |.find _ u long fr til=>1<=u/\u<=9/\1<=long/\long<=1048320/\0<=fr/\fr<=1048320/\0<=til/\til<=1048320
 |.expand r=>Rd.a6s r
 |.tick n=>1<=n/\n<=1048320
 |.clock=>True
structure a1H(now:Int)(e:Ent):Prop where
 u1:1<=e.a0c
 u9:e.a0c<=9
 sl:e.a0e.length<=40
 s0:e.a0e≠[]
 sp:c1P e.a0e
 ri:a2c e.a0e
 kd:(e.kind=1/\e.a0Z=0)\/((e.kind=2\/e.kind=3)/\now<e.a0Z/\e.a0Z<=1048320/\e.a0e.length=1)
structure Inv(s:St):Prop where
 tl:s.ts.length<=4
 tu:∀ t∈s.ts,1<=t.2/\t.2<=9
 tn:s.ts.Pairwise fun t u=>a0y t.1 u.1=false
 ids:Ids s.es
 idb:∀ e∈s.es,1<=e.id/\e.id<=s.given
 g0:0<=s.given
 g1:s.given<=60
 n0:0<=s.now
 n1:s.now<=1048320
 en:∀ e∈s.es,a1H s.now e
 th:∀ e∈s.es,e.a0c<=a0h e.a0k s.ts
 wa:a1Y s.es<=6
 no:∀ e∈s.es,e.kind=3->a1e s.ts s.es e.a0k e.a0c e.a0e=false
 wi:∀ name x,a0o name x s.es<=a0h name s.ts
end Desk
end Go.Proofs.YtfigmlfdnickmaaGreatDoor
