import Derived.Test.YtfigmlfdnickmaaGreatDoorL19
set_option maxRecDepth 100000
set_option maxHeartbeats 8000000
variable{m:Int}{pat xs:List Go.Value}{Q b0 k n z:Nat}{o:Go.Obj}{s:Go.Proofs.YtfigmlfdnickmaaGreatDoor.Desk.St}{a b c l r' u v:Go.Value}{W Z Z' Z3 w0 w9 wr:Go.World}
namespace Go.Proofs.YtfigmlfdnickmaaGreatDoor
open Go.RowKit
variable {w:World}{B:Nat}{v0 v1 r1 r2 r3:Value}{K:List Nat}{X1 X2 X3:List KL}
theorem f8Y:(Tryz.prog.info? tI).map (fun i=>(i.zero,i.size,i.bytes))=some (some (.agg #[.slice none 0 0,.slice none 0 0,.slice none 0 0,.slice none 0 0,.int .i64 0]),5,104):=by kernel_rfl
theorem d1o{e:Nat}(h:W.ownsRow b0 e z v n xs)(hk:k<xs.length):∃ g cap u,v=.slice (some ⟨g,0,none⟩) n cap/\W.cell? ⟨g,k,none⟩=some u/\∀ o,W.frozen? ⟨g,o,none⟩=false:=by
 rcases h.2 with ⟨rfl,rfl⟩|⟨g,cap,cur,rfl,_,hh,_⟩
 ·have:=h.1;rw[Nat.zero_mul] at this;omega
 ·exact⟨g,cap,xs[k],rfl,(f6U g k) ▸ h.cells (g:=g) rfl k xs[k] (List.getElem?_eq_getElem hk),fun o=>by simp[World.frozen?,hh]⟩
theorem g4s(hk:k<xs.length):(rp (e5O m) k++xs.drop k).set k (.int .i64 m)=rp (e5O m) (k+1)++xs.drop (k+1):=by
 have hl:(rp (e5O m) k).length=k:=by rw[d4O];simp
 rw[List.set_append,if_neg (by omega),hl,Nat.sub_self,List.drop_eq_getElem_cons hk,e6y,List.append_assoc];rfl
def e5M(w:World)(B:Nat)(v0 v1:Value)(K:List Nat)(r1 r2 r3:Value)(l:Value)(n:Nat)(w':World):Prop :=
 ∃ K' r1' r2' r3' Y1 Y2 Y3,BK w' B v0 v1 K' r1' r2' r3' Y1 Y2 Y3/\Y1.length+Y2.length+Y3.length=n+1/\Off (l.ownBlock.toList++bkB B r1 r2 r3) w w'/\(∀ b∈K',b∈K\/l.ownBlock=some b\/w.heap.size<=b)/\(∀ b∈bkB B r1' r2' r3',b∈bkB B r1 r2 r3\/w.heap.size<=b)
structure KS(pat:List Value)(e:TypeId)(w0 Z:World)(l:Value)(n Q:Nat)(o:Obj):Prop where
 own:Z.ownsRow 0 e pat.length l n (rp pat n)
 hq:Z.heap[Q]?=some o
 lo:w0.heap.size<=Q
 off:Off l.ownBlock.toList w0 Z
 lt:∀ b,l.ownBlock=some b->b<w0.heap.size
theorem KS.put{e:TypeId}{cs:Array Value}{t:TypeId}(h:KS pat e w0 Z l n Q (.cells cs t))(k:Off l.ownBlock.toList Z Z')(ho:Z'.ownsRow 0 e pat.length l n (rp pat n))(i:Nat)(v:Value):KS pat e w0 (Z'.setCell ⟨Q,i,none⟩ v) l n Q (.cells (cs.setIfInBounds i v) t):=by
 have hQ:Q ∉ l.ownBlock.toList:=fun e=>by have:=h.lt Q (by simpa using e);have:=h.lo;omega
 have kd:Off [Q] Z' (Z'.setCell ⟨Q,i,none⟩ v):=Off.set0 ..;refine⟨a1i ho kd (fun b hb e=>hQ (by simp at e;subst e;simpa using hb)),d1X ((k.block Q (Array.getElem?_eq_some_iff.1 h.hq).1 hQ).trans h.hq) v,h.lo,(h.off.trans k).setCell (.inr h.lo) _ _,h.lt⟩
theorem d0h{cs:Array Value}{t:TypeId}(h:Z.heap[Q]?=some (.cells cs t))(i:Nat)(hv:cs[i]?=some v):Z.cell? ⟨Q,i,none⟩=some v:=by simp[World.cell?,h,hv]
theorem KS.at_{e:TypeId}{cs:Array Value}{t:TypeId}(h:KS pat e w0 Z l n Q (.cells cs t))(k:Off l.ownBlock.toList Z Z'):Z'.heap[Q]?=some (.cells cs t)/\∀ o,Z'.frozen? ⟨Q,o,none⟩=false:=by
 have hQ:Q ∉ l.ownBlock.toList:=fun e=>by have:=h.lt Q (by simpa using e);have:=h.lo;omega
 have e:=(k.block Q (Array.getElem?_eq_some_iff.1 h.hq).1 hQ).trans h.hq;exact⟨e,fun o=>by simp[World.frozen?,e]⟩
structure KF(pat:List Value)(e:TypeId)(w0 Z:World)(l:Value)(n Q:Nat)(o:Obj)(us:List (Value × Nat)):Prop where
 ks:KS pat e w0 Z l n Q o
 fs:∀ p∈us,Fu pat Z p.1 p.2/\∀ b,p.1.ownBlock=some b->b≠Q/\b<Z.heap.size/\(l.ownBlock=some b\/w0.heap.size<=b)
theorem KF.put{e:TypeId}{m g cap:Nat}{cs:Array Value}{t:TypeId}{us:List (Value × Nat)}(h:KF pat e w0 Z l n Q (.cells cs t) us)(o6:Z'.ownsRow 0 e pat.length (.slice (some ⟨g,0,none⟩) (n+m) cap) (n+m) (rp pat (n+m)))(ol6:Z'.ownsRow 0 e pat.length l n (rp pat n))(f6:∀ u j,j<=n+m->Fu pat Z u j->Fu pat Z' u j)(k6:Off l.ownBlock.toList Z Z')(at6:l.ownBlock=some g\/Z.heap.size<=g)(hj:∀ p∈us,p.2<=n+m)(i:Nat):
  KF pat e w0 (Z'.setCell ⟨Q,i,none⟩ (.slice (some ⟨g,0,none⟩) (n+m) cap)) l n Q (.cells (cs.setIfInBounds i (.slice (some ⟨g,0,none⟩) (n+m) cap)) t) ((.slice (some ⟨g,0,none⟩) (n+m) cap,n+m) :: us):=by
 have kd:Off [Q] Z' (Z'.setCell ⟨Q,i,none⟩ (.slice (some ⟨g,0,none⟩) (n+m) cap)):=Off.set0 ..;have hQ:Q<Z.heap.size:=(Array.getElem?_eq_some_iff.1 h.ks.hq).1;have hz:=h.ks.off.size
 have hg:g≠Q/\g<Z'.heap.size/\(l.ownBlock=some g\/w0.heap.size<=g):=by
  refine⟨?_,c7O o6 (by simp[Value.ownBlock]),at6.imp id fun e=>by omega⟩;rcases at6 with e|e
  ·have:=h.ks.lt g e;have:=h.ks.lo;omega
  ·omega
 refine⟨h.ks.put k6 ol6 i _,fun p hp=>?_⟩;rcases List.mem_cons.1 hp with rfl|hp
 ·refine⟨(Fu.of_own o6).off kd (fun b hb e=>?_),fun b hb=>?_⟩
  ·simp[Value.ownBlock] at hb e;exact hg.1 (hb.trans e)
  ·simp[Value.ownBlock] at hb;subst hb;exact⟨hg.1,Nat.lt_of_lt_of_le hg.2.1 kd.size,hg.2.2⟩
 ·obtain⟨p1,p2⟩:=h.fs p hp;exact⟨(f6 _ _ (hj p hp) p1).off kd (fun b hb e=>(p2 b hb).1 (by simpa using e)),fun b hb=>⟨(p2 b hb).1,Nat.lt_of_lt_of_le (zL (p2 b hb).2.1 k6.size) kd.size,(p2 b hb).2.2⟩⟩
theorem BK.lt(h:BK w B v0 v1 K r1 r2 r3 X1 X2 X3):∀ b∈bkB B r1 r2 r3,b<w.heap.size:=fun b hb=>by
 simp only[bkB,List.mem_cons,List.mem_append,Option.mem_toList] at hb;rcases hb with rfl|hb|hb|hb
 ·exact (Array.getElem?_eq_some_iff.1 h.hb).1
 ·exact c7O h.br.b1.own hb
 ·exact c7O h.br.b2.own hb
 ·exact c7O h.br.b3.own hb
theorem KF.blocks{e:TypeId}(hT:KF pat e wr Z3 l n Q o [(c,n+3),(b,n+2),(a,n+1),(l,n)]):∀ q∈klB (l,a,b,c,m),q<Z3.heap.size/\(l.ownBlock=some q\/wr.heap.size<=q):=fun q hq=>by
 simp only[klB,List.mem_append,Option.mem_toList] at hq;rcases hq with hq|hq|hq|hq
 ·exact ((hT.fs (l,n) (by simp)).2 q hq).2
 ·exact ((hT.fs (a,n+1) (by simp)).2 q hq).2
 ·exact ((hT.fs (b,n+2) (by simp)).2 q hq).2
 ·exact ((hT.fs (c,n+3) (by simp)).2 q hq).2
theorem KF.k4{P:Int->List Value}{e:TypeId}(hT:KF (P m) e wr Z3 l n Q o [(c,n+3),(b,n+2),(a,n+1),(l,n)])(hn:n<=900000):K4 P Z3 (l,a,b,c,m) :=
 ⟨n,hn,(hT.fs (l,n) (by simp)).1,(hT.fs (a,n+1) (by simp)).1,(hT.fs (b,n+2) (by simp)).1,(hT.fs (c,n+3) (by simp)).1⟩
theorem BK.kept{r1' r2' r3':Value}{e:TypeId}{Y1 Y2 Y3:List KL}(hT:KF pat e wr Z3 l n Q o [(c,n+3),(b,n+2),(a,n+1),(l,n)])(R3:Off l.ownBlock.toList w Z3)(hw:w.heap.size<=wr.heap.size)(hl:Y1.length+Y2.length+Y3.length=X1.length+X2.length+X3.length+1)
  (hr:∀ q∈bkB B r1' r2' r3',q∈bkB B r1 r2 r3\/Z3.heap.size<=q) (hk:BK w9 B v0 v1 (klB (l,a,b,c,m)++K) r1' r2' r3' Y1 Y2 Y3/\Off (bkB B r1 r2 r3) Z3 w9):e5M w B v0 v1 K r1 r2 r3 l (X1.length+X2.length+X3.length) w9:=by
 refine⟨_,r1',r2',r3',Y1,Y2,Y3,hk.1,hl,(R3.mono fun y hy=>List.mem_append_left _ hy).trans (hk.2.mono fun y hy=>List.mem_append_right _ hy),fun q hq=>?_,fun q hq=>(hr q hq).imp id fun e=>by have:=R3.size;omega⟩;rcases List.mem_append.1 hq with hq|hq
 ·rcases (hT.blocks q hq).2 with e|e
  ·exact .inr (.inl e)
  ·exact .inr (.inr (by omega))
 ·exact .inl hq
theorem BK.apart{e:TypeId}(h:BK w B v0 v1 K r1 r2 r3 X1 X2 X3)(hT:KF pat e wr Z3 l n Q o [(c,n+3),(b,n+2),(a,n+1),(l,n)])(hw:w.heap.size<=wr.heap.size)(hlK:∀ b,l.ownBlock=some b->b ∉ K/\b ∉ bkB B r1 r2 r3):∀ q∈klB (l,a,b,c,m),q<Z3.heap.size/\q ∉ bkB B r1 r2 r3:=fun q hq=>by
 refine⟨(hT.blocks q hq).1,fun e=>?_⟩;rcases (hT.blocks q hq).2 with e1|e1
 ·exact (hlK q e1).2 e
 ·have:=h.lt q e;omega
theorem BK.kept1{e:TypeId}(h:BK w B v0 v1 K r1 r2 r3 X1 X2 X3)(h3:BK Z3 B v0 v1 K r1 r2 r3 X1 X2 X3)(hT:KF (e5O m) e wr Z3 l n Q o [(c,n+3),(b,n+2),(a,n+1),(l,n)])(hn:n<=900000)(R3:Off l.ownBlock.toList w Z3)(hw:w.heap.size<=wr.heap.size)(hlK:∀ b,l.ownBlock=some b->b ∉ K/\b ∉ bkB B r1 r2 r3)
  (k9:Off r1.ownBlock.toList Z3 w9) (o9:w9.ownsRow 0 tI 5 r' (X1.length+1) (X1.flatMap klV++klV (l,a,b,c,m))) (hat:g2M Z3 r1 r'):e5M w B v0 v1 K r1 r2 r3 l (X1.length+X2.length+X3.length) (w9.setCell ⟨B,2,none⟩ r') :=
 BK.kept hT R3 hw (by simp;omega) (fun q hq=>by
  simp only[bkB,List.mem_cons,List.mem_append,Option.mem_toList] at hq ⊢;rcases hq with rfl|hq|hq|hq
  ·exact .inl (.inl rfl)
  ·exact (hat q hq).imp (fun e=>.inr (.inl e)) id
  ·exact .inl (.inr (.inr (.inl hq)))
  ·exact .inl (.inr (.inr (.inr hq)))) (h3.add1 (hT.k4 (P:=e5O) hn) (h.apart hT hw hlK) k9 o9 hat)
theorem e4A(h:BK w B v0 v1 K r1 r2 r3 X1 X2 X3)(h1:X1.length<=1000000000)(h2:X2.length<=1000000000)(h3:X3.length<=1000000000)(hl:w.ownsRow 0 3 1 l n xs)(hn:n<=900000)(hlK:∀ b,l.ownBlock=some b->b ∉ K/\b ∉ bkB B r1 r2 r3):
  Calls Tryz.prog 123 #[.pointer (some ⟨B,2,none⟩),l] w fun e w'=>e=.returned (.tuple #[])/\e5M w B v0 v1 K r1 r2 r3 l (X1.length+X2.length+X3.length) w':=by
 obtain⟨i0,hi0,hz0,hz1,hz2⟩:=info_parts b1S;obtain⟨j0,hj0,jz0,jz1,jz2⟩:=info_parts f8Y;obtain⟨a,cp,rfl⟩:=c9y hl;have HB:=a0b h;have HL:=a0b hl;have HK:=a0b hlK;have HLT:=a0b (fun b (hb:(Value.slice a n cp).ownBlock=some b)=>c7O hl hb);have hxl:xs.length=n:=by have:=hl.1;omega
 clear h hl hlK
 go_enter Tryz.func123,Tryz.ntmps123
 go_upto_region 2 with (first|(go_at_call 184;refine (e1W HB.out h1 h2 h3).mono ?_;rintro e w1 ⟨rfl,hb⟩;have H1:=a0b hb;clear hb))
 generalize hmm:f8N X1 X2 X3=m;have HL1:=a0b (a1g HL.out H1.out)
 go_loopw [5] (fun v wr=>∃ k:Nat,k<=n/\v=.int .i64 k/\wr.ownsRow 0 3 1 (.slice a n cp) n (rp (e5O m) k++xs.drop k)/\Off (Value.slice a n cp).ownBlock.toList w1 wr) (fun v _=>n-(intOf v).toNat)
 case atStart=>exact⟨0,Nat.zero_le _,rfl,by simpa[e6x] using HL1.out,Off.refl _ _⟩
 case round =>
  obtain⟨k,hk,rfl,hown,hof⟩:=hrel;have HO:=a0b (zA hown hof)
  by_cases hlt:k<n
  ·have hlt':(k:Int)<(n:Int):=by omega
   obtain⟨g,cap,u,e,c0,fz⟩:=d1o hown (k:=k) (by rw[List.length_append,d4O,List.length_drop];simp;omega);simp only[Value.slice.injEq,true_and] at e;obtain⟨rfl,rfl⟩:=e;have f0:=fz k;clear hown hof
   go_wp2_with fail
   go_roundw
   case rel =>
    refine⟨k+1,by omega,by go_num,?_,HO.out.2.setCell (.inl (by simp[Value.ownBlock])) _ _⟩;have:=d1L HO.out.1 (b:=g) rfl k (.int .i64 m);rw[g4s (by omega)] at this;exact this
   case measure=>simp[intOf];omega
  ·have hlt':¬ (k:Int)<(n:Int):=by omega
   have hkn:k=n:=by omega
   subst hkn
   have HR:Hid (wr.ownsRow 0 3 1 (.slice a k cp) k (rp (e5O m) k)):=by
    have:=HO.out.1;rw[List.drop_eq_nil_of_le (by omega),List.append_nil] at this;exact this
   clear hown hof
   go_upto_region 6 with fail
   change Code.wp _ _ _ _ (wr.alloc (.cells #[.slice a k cp,.slice none 0 0,.slice none 0 0,.slice none 0 0,.int .i64 m] tI))
   have S0:Hid (KS (e5O m) 3 wr (wr.alloc (.cells #[.slice a k cp,.slice none 0 0,.slice none 0 0,.slice none 0 0,.int .i64 m] tI)) (.slice a k cp) k wr.heap.size (.cells #[.slice a k cp,.slice none 0 0,.slice none 0 0,.slice none 0 0,.int .i64 m] tI)) :=
    ⟨HR.out.alloc _,a0p _ _,Nat.le_refl _,(Off.refl _ _).alloc _,fun b hb=>c7O HR.out hb⟩
   have T0:Hid (KF (e5O m) 3 wr (wr.alloc (.cells #[.slice a k cp,.slice none 0 0,.slice none 0 0,.slice none 0 0,.int .i64 m] tI)) (.slice a k cp) k wr.heap.size (.cells #[.slice a k cp,.slice none 0 0,.slice none 0 0,.slice none 0 0,.int .i64 m] tI) [(.slice a k cp,k)]) :=
    ⟨S0.out,fun p hp=>by
     rw[List.mem_singleton.1 hp]
     exact⟨Fu.of_own S0.out.own,fun b hb=>⟨by have:=S0.out.lt b hb;omega,c7O S0.out.own hb,.inl hb⟩⟩⟩
   clear S0;generalize wr.alloc (.cells #[.slice a k cp,.slice none 0 0,.slice none 0 0,.slice none 0 0,.int .i64 m] tI)=Z0 at T0 ⊢
   go_upto_region 7 with (first|(at_builtin;go_loud (refine d6c rfl _ _ 38 rfl (e5O m) 8 Tryz.underlying38 hi0 hz0 hz1 hz2 (by decide) rfl (by simp) (by simp[Value.oneCell']) T0.out.ks.own (m:=1) (cs:=#[.int .i64 m]) (by simp[rp]) (by decide) (by decide) rfl rfl (by omega) (zN _) ?_);intro g6 c6 w6 o6 ol6 f6 k6 at6;have q6:=d0h (T0.out.ks.at_ k6).1 1 rfl;have z6:=(T0.out.ks.at_ k6).2 1))
   have T1:=a0b (T0.out.put o6 ol6 f6 k6 at6 (by simp) 1);generalize w6.setCell ⟨wr.heap.size,1,none⟩ (.slice (some ⟨g6,0,none⟩) (k+1) c6)=Z1 at T1 ⊢;clear o6 ol6 f6 k6 at6 q6 z6 T0
   go_upto_region 8 with (first|(at_builtin;go_loud (refine d6c rfl _ _ 38 rfl (e5O m) 8 Tryz.underlying38 hi0 hz0 hz1 hz2 (by decide) rfl (by simp) (by simp[Value.oneCell']) T1.out.ks.own (m:=2) (cs:=#[.int .i64 m,.int .i64 m]) (by simp[rp]) (by decide) (by decide) rfl rfl (by omega) (zN _) ?_);intro g7 c7 w7 o7 ol7 f7 k7 at7;have q7:=d0h (T1.out.ks.at_ k7).1 2 rfl;have z7:=(T1.out.ks.at_ k7).2 2))
   have T2:=a0b (T1.out.put o7 ol7 f7 k7 at7 (by simp) 2);generalize w7.setCell ⟨wr.heap.size,2,none⟩ (.slice (some ⟨g7,0,none⟩) (k+2) c7)=Z2 at T2 ⊢;clear o7 ol7 f7 k7 at7 q7 z7 T1
   go_upto_region 9 with (first|(at_builtin;go_loud (refine d6c rfl _ _ 38 rfl (e5O m) 8 Tryz.underlying38 hi0 hz0 hz1 hz2 (by decide) rfl (by simp) (by simp[Value.oneCell']) T2.out.ks.own (m:=3) (cs:=#[.int .i64 m,.int .i64 m,.int .i64 m]) (by simp[rp]) (by decide) (by decide) rfl rfl (by omega) (zN _) ?_);intro g8 c8 w8 o8 ol8 f8 k8 at8;have q8:=d0h (T2.out.ks.at_ k8).1 3 rfl;have z8:=(T2.out.ks.at_ k8).2 3))
   have T3:=a0b (T2.out.put o8 ol8 f8 k8 at8 (by simp) 3);generalize w8.setCell ⟨wr.heap.size,3,none⟩ (.slice (some ⟨g8,0,none⟩) (k+3) c8)=Z3 at T3 ⊢;clear o8 ol8 f8 k8 at8 q8 z8 T2;have R3:Off (Value.slice a k cp).ownBlock.toList w Z3:=(Off.of_below H1.out).trans (HO.out.2.trans T3.out.ks.off);have HLK:=a0b (fun b (hb:b∈(Value.slice a k cp).ownBlock.toList)=>HK.out b (by simpa using hb));have B3:=a0b (HB.out.off R3 (fun b hb e=>(HLK.out b e).2 hb) (fun b hb e=>(HLK.out b e).1 hb));have HR3:=a0b R3;obtain⟨_,_,d2,_,_,fzB⟩:=B3.out.cells;obtain⟨⟨ra,rc,er⟩,_,_⟩:=B3.out.forms;subst er;have fB:=fzB 2;have s0:=d0h T3.out.ks.hq 0 rfl;have s1:=d0h T3.out.ks.hq 1 rfl;have s2:=d0h T3.out.ks.hq 2 rfl;have s3:=d0h T3.out.ks.hq 3 rfl;have s4:=d0h T3.out.ks.hq 4 rfl;have d2A:∀ o,(Z3.alloc o).cell? ⟨B,2,none⟩=some (.slice ra X1.length rc):=fun o=>a0a ((zr _ Z3).alloc (zq _) o) d2
   have DD:=a0b (fun o=>a1g B3.out.br.b1.own (((zr _ Z3).alloc (zq _) o).drew));have hBr:(Value.slice ra X1.length rc).ownBlock≠some B:=c8L B3.out.br.b1.own B3.out.hb (by decide);clear R3 fzB
   go_region_law (first
    |(refine step_append_lies _ rfl _ _ 80 rfl 0 tI j0 _ 5 104 Tryz.underlying80 hj0 jz0 jz1 jz2 rfl (by decide) (.slice ra X1.length rc) X1.length (X1.flatMap klV) rfl (DD.out _) ⟨Z3.heap.size,0,none⟩ 1 1 (klV (.slice a k cp,.slice (some ⟨g6,0,none⟩) (k+1) c6,.slice (some ⟨g7,0,none⟩) (k+2) c7,.slice (some ⟨g8,0,none⟩) (k+3) c8,m)) rfl rfl (World.news_of_block (cs:=(klV (.slice a k cp,.slice (some ⟨g6,0,none⟩) (k+1) c6,.slice (some ⟨g7,0,none⟩) (k+2) c7,.slice (some ⟨g8,0,none⟩) (k+3) c8,m)).toArray) (a0p Z3 _)) (by simp[klV,Value.oneCell']) (by omega) (by unfold maxLen;omega) (by omega) (zN _) (Z3.heap.size+1) (by simp) ?_;intro g9 c9 w9 o9 hgrow at9 hlt9;have k9:Off ((Value.slice ra X1.length rc).ownBlock.toList) Z3 w9:=Off.grown (((Off.refl _ Z3).alloc _).drew) hgrow (fun k hk=>.inl (by simp[hk]));have d9:=k9.cell (fun e=>hBr (by simpa using e)) d2;have f9:=(k9.frozen (fun e=>hBr (by simpa using e)) (World.block_lt_of_cell? _ _ d2)).trans fB))
   all_goals
    go_wp2_with fail
    (try simp only[Exit.inBlock,Exit.then]);refine bodyPost_end (results_none rfl _ _ _) rfl ?_
    refine⟨rfl,HB.out.kept1 B3.out T3.out hn HR3.out (Nat.le_trans H1.out.size HO.out.2.size) HK.out k9 o9 (fun b hb=>by
     simp[Value.ownBlock] at hb;subst hb
     exact at9.imp id (fun e=>by omega))⟩
variable {w:World}{B:Nat}{v0 v1 r1 r2 r3:Value}{K:List Nat}{X1 X2 X3:List KL}
theorem f1R:(Tryz.prog.info? tS).map (fun i=>(i.zero,i.size,i.bytes))=some (some (.agg #[.slice none 0 0,.slice none 0 0,.slice none 0 0,.slice none 0 0,.int .i64 0]),5,104):=by kernel_rfl
theorem g4r(hk:k*2+1<xs.length):((rp (e4i m) k++xs.drop (k*2)).set (k*2) (.int .i64 m)).set (k*2+1) (.int .i64 m)=rp (e4i m) (k+1)++xs.drop ((k+1)*2):=by
 have hl:(rp (e4i m) k).length=k*2:=by rw[d4O];simp
 have e2:(k+1)*2=k*2+1+1:=by omega
 rw[List.set_append,if_neg (by omega),List.set_append,if_neg (by omega),hl,Nat.sub_self,Nat.add_sub_cancel_left,List.drop_eq_getElem_cons (by omega),List.drop_eq_getElem_cons hk,e6y,List.append_assoc,e2];rfl
theorem BK.kept2{e:TypeId}(h:BK w B v0 v1 K r1 r2 r3 X1 X2 X3)(h3:BK Z3 B v0 v1 K r1 r2 r3 X1 X2 X3)(hT:KF (e4i m) e wr Z3 l n Q o [(c,n+3),(b,n+2),(a,n+1),(l,n)])(hn:n<=900000)(R3:Off l.ownBlock.toList w Z3)(hw:w.heap.size<=wr.heap.size)(hlK:∀ b,l.ownBlock=some b->b ∉ K/\b ∉ bkB B r1 r2 r3)
  (k9:Off r2.ownBlock.toList Z3 w9) (o9:w9.ownsRow 0 tS 5 r' (X2.length+1) (X2.flatMap klV++klV (l,a,b,c,m))) (hat:g2M Z3 r2 r'):e5M w B v0 v1 K r1 r2 r3 l (X1.length+X2.length+X3.length) (w9.setCell ⟨B,3,none⟩ r') :=
 BK.kept hT R3 hw (by simp;omega) (fun q hq=>by
  simp only[bkB,List.mem_cons,List.mem_append,Option.mem_toList] at hq ⊢;rcases hq with rfl|hq|hq|hq
  ·exact .inl (.inl rfl)
  ·exact .inl (.inr (.inl hq))
  ·exact (hat q hq).imp (fun e=>.inr (.inr (.inl e))) id
  ·exact .inl (.inr (.inr (.inr hq)))) (h3.add2 (hT.k4 (P:=e4i) hn) (h.apart hT hw hlK) k9 o9 hat)
theorem e2e(h:BK w B v0 v1 K r1 r2 r3 X1 X2 X3)(h1:X1.length<=1000000000)(h2:X2.length<=1000000000)(h3:X3.length<=1000000000)(hl:w.ownsRow 0 60 2 l n xs)(hn:n<=900000)(hlK:∀ b,l.ownBlock=some b->b ∉ K/\b ∉ bkB B r1 r2 r3):
  Calls Tryz.prog 121 #[.pointer (some ⟨B,2,none⟩),l] w fun e w'=>e=.returned (.tuple #[])/\e5M w B v0 v1 K r1 r2 r3 l (X1.length+X2.length+X3.length) w':=by
 obtain⟨i0,hi0,hz0,hz1,hz2⟩:=info_parts b6Q;obtain⟨j0,hj0,jz0,jz1,jz2⟩:=info_parts f1R;obtain⟨a,cp,rfl⟩:=c9y hl;have HB:=a0b h;have HL:=a0b hl;have HK:=a0b hlK;have HLT:=a0b (fun b (hb:(Value.slice a n cp).ownBlock=some b)=>c7O hl hb);have hxl:xs.length=n*2:=hl.1;clear h hl hlK
 go_enter Tryz.func121,Tryz.ntmps121
 go_upto_region 3 with (first|(go_at_call 184;refine (e1W HB.out h1 h2 h3).mono ?_;rintro e w1 ⟨rfl,hb⟩;have H1:=a0b hb;clear hb))
 generalize hmm:f8N X1 X2 X3=m;change Code.wp _ _ _ _ (w1.alloc (.cells #[.int .i64 m,.int .i64 m] 60));have HW:=a0b (a0j H1.out ((zr _ w1).alloc (zq _) (.cells #[.int .i64 m,.int .i64 m] 60)) (zq _));have hS:w1.heap.size ∉ (Value.slice a n cp).ownBlock.toList:=fun e=>by have:=HLT.out _ (by simpa using e);have:=H1.out.size;omega
 have BX:Hid (∀ Z,Off (Value.slice a n cp).ownBlock.toList (w1.alloc (.cells #[.int .i64 m,.int .i64 m] 60)) Z->Z.cell? ⟨w1.heap.size,0,none⟩=some (.int .i64 m)/\Z.cell? ⟨w1.heap.size,1,none⟩=some (.int .i64 m)):=fun Z k=>⟨k.cell hS (d0h (a0p w1 _) 0 rfl),k.cell hS (d0h (a0p w1 _) 1 rfl)⟩
 clear hS;generalize w1.alloc (.cells #[.int .i64 m,.int .i64 m] 60)=W1 at HW BX ⊢;generalize w1.heap.size=S at BX ⊢;have HL1:=a0b (a1g HL.out HW.out)
 go_loopw [6] (fun v wr=>∃ k:Nat,k<=n/\v=.int .i64 k/\wr.ownsRow 0 60 2 (.slice a n cp) n (rp (e4i m) k++xs.drop (k*2))/\Off (Value.slice a n cp).ownBlock.toList W1 wr) (fun v _=>n-(intOf v).toNat)
 case atStart=>exact⟨0,Nat.zero_le _,rfl,by simpa[e6x] using HL1.out,Off.refl _ _⟩
 case round =>
  obtain⟨k,hk,rfl,hown,hof⟩:=hrel;have HO:=a0b (zA hown hof)
  by_cases hlt:k<n
  ·have hlt':(k:Int)<(n:Int):=by omega
   obtain⟨y0,y1⟩:=BX.out _ hof;obtain⟨g,cap,u,e,c0,fz⟩:=d1o hown (k:=k*2) (by rw[List.length_append,d4O,List.length_drop];simp;omega);obtain⟨g',cap',u',e',c1,_⟩:=d1o hown (k:=k*2+1) (by rw[List.length_append,d4O,List.length_drop];simp;omega);rw[e] at e';simp only[Value.slice.injEq,Option.some.injEq,Addr.mk.injEq,and_true,true_and] at e';obtain⟨rfl,rfl⟩:=e';simp only[Value.slice.injEq,true_and] at e;obtain⟨rfl,rfl⟩:=e;have f0:=fz (k*2);have f1:=fz (k*2+1);clear hown hof
   go_wp2_with fail
   go_roundw
   case rel =>
    refine⟨k+1,by omega,by go_num,?_,(HO.out.2.setCell (.inl (by simp[Value.ownBlock])) _ _).setCell (.inl (by simp[Value.ownBlock])) _ _⟩;have:=d1L (d1L HO.out.1 (b:=g) rfl (k*2) (.int .i64 m)) (b:=g) rfl (k*2+1) (.int .i64 m);rw[g4r (by omega)] at this;exact this
   case measure=>simp[intOf];omega
  ·have hlt':¬ (k:Int)<(n:Int):=by omega
   have hkn:k=n:=by omega
   subst hkn
   have HR:Hid (wr.ownsRow 0 60 2 (.slice a k cp) k (rp (e4i m) k)):=by
    have:=HO.out.1;rw[List.drop_eq_nil_of_le (by omega),List.append_nil] at this;exact this
   clear hown hof;obtain⟨y0,y1⟩:=BX.out _ HO.out.2
   go_upto_region 7 with fail
   change Code.wp _ _ _ _ (wr.alloc (.cells #[.slice a k cp,.slice none 0 0,.slice none 0 0,.slice none 0 0,.int .i64 m] tS))
   have S0:Hid (KS (e4i m) 60 wr (wr.alloc (.cells #[.slice a k cp,.slice none 0 0,.slice none 0 0,.slice none 0 0,.int .i64 m] tS)) (.slice a k cp) k wr.heap.size (.cells #[.slice a k cp,.slice none 0 0,.slice none 0 0,.slice none 0 0,.int .i64 m] tS)) :=
    ⟨HR.out.alloc _,a0p _ _,Nat.le_refl _,(Off.refl _ _).alloc _,fun b hb=>c7O HR.out hb⟩
   have T0:Hid (KF (e4i m) 60 wr (wr.alloc (.cells #[.slice a k cp,.slice none 0 0,.slice none 0 0,.slice none 0 0,.int .i64 m] tS)) (.slice a k cp) k wr.heap.size (.cells #[.slice a k cp,.slice none 0 0,.slice none 0 0,.slice none 0 0,.int .i64 m] tS) [(.slice a k cp,k)]) :=
    ⟨S0.out,fun p hp=>by
     rw[List.mem_singleton.1 hp]
     exact⟨Fu.of_own S0.out.own,fun b hb=>⟨by have:=S0.out.lt b hb;omega,c7O S0.out.own hb,.inl hb⟩⟩⟩
   clear S0;generalize wr.alloc (.cells #[.slice a k cp,.slice none 0 0,.slice none 0 0,.slice none 0 0,.int .i64 m] tS)=Z0 at T0 ⊢;obtain⟨y0,y1⟩:=BX.out _ (HO.out.2.trans T0.out.ks.off)
   go_upto_region 8 with (first|(at_builtin;go_loud (refine d6c rfl _ _ 56 rfl (e4i m) 16 Tryz.underlying56 hi0 hz0 hz1 hz2 (by decide) rfl (by simp) (by simp[Value.oneCell']) T0.out.ks.own (m:=1) (cs:=#[.int .i64 m,.int .i64 m]) (by simp[rp]) (by decide) (by decide) rfl rfl (by omega) (zN _) ?_);intro g6 c6 w6 o6 ol6 f6 k6 at6;have q6:=d0h (T0.out.ks.at_ k6).1 1 rfl;have z6:=(T0.out.ks.at_ k6).2 1))
   have T1:=a0b (T0.out.put o6 ol6 f6 k6 at6 (by simp) 1);generalize w6.setCell ⟨wr.heap.size,1,none⟩ (.slice (some ⟨g6,0,none⟩) (k+1) c6)=Z1 at T1 ⊢;clear y0 y1 o6 ol6 f6 k6 at6 q6 z6 T0;obtain⟨y0,y1⟩:=BX.out _ (HO.out.2.trans T1.out.ks.off)
   go_upto_region 9 with (first|(at_builtin;go_loud (refine d6c rfl _ _ 56 rfl (e4i m) 16 Tryz.underlying56 hi0 hz0 hz1 hz2 (by decide) rfl (by simp) (by simp[Value.oneCell']) T1.out.ks.own (m:=2) (cs:=#[.int .i64 m,.int .i64 m,.int .i64 m,.int .i64 m]) (by simp[rp]) (by decide) (by decide) rfl rfl (by omega) (zN _) ?_);intro g7 c7 w7 o7 ol7 f7 k7 at7;have q7:=d0h (T1.out.ks.at_ k7).1 2 rfl;have z7:=(T1.out.ks.at_ k7).2 2))
   have T2:=a0b (T1.out.put o7 ol7 f7 k7 at7 (by simp) 2);generalize w7.setCell ⟨wr.heap.size,2,none⟩ (.slice (some ⟨g7,0,none⟩) (k+2) c7)=Z2 at T2 ⊢;clear y0 y1 o7 ol7 f7 k7 at7 q7 z7 T1;obtain⟨y0,y1⟩:=BX.out _ (HO.out.2.trans T2.out.ks.off)
   go_upto_region 10 with (first|(at_builtin;go_loud (refine d6c rfl _ _ 56 rfl (e4i m) 16 Tryz.underlying56 hi0 hz0 hz1 hz2 (by decide) rfl (by simp) (by simp[Value.oneCell']) T2.out.ks.own (m:=3) (cs:=#[.int .i64 m,.int .i64 m,.int .i64 m,.int .i64 m,.int .i64 m,.int .i64 m]) (by simp[rp]) (by decide) (by decide) rfl rfl (by omega) (zN _) ?_);intro g8 c8 w8 o8 ol8 f8 k8 at8;have q8:=d0h (T2.out.ks.at_ k8).1 3 rfl;have z8:=(T2.out.ks.at_ k8).2 3))
   have T3:=a0b (T2.out.put o8 ol8 f8 k8 at8 (by simp) 3);generalize w8.setCell ⟨wr.heap.size,3,none⟩ (.slice (some ⟨g8,0,none⟩) (k+3) c8)=Z3 at T3 ⊢;clear y0 y1 o8 ol8 f8 k8 at8 q8 z8 T2;have R3:Off (Value.slice a k cp).ownBlock.toList w Z3:=(Off.of_below HW.out).trans (HO.out.2.trans T3.out.ks.off);have HLK:=a0b (fun b (hb:b∈(Value.slice a k cp).ownBlock.toList)=>HK.out b (by simpa using hb));have B3:=a0b (HB.out.off R3 (fun b hb e=>(HLK.out b e).2 hb) (fun b hb e=>(HLK.out b e).1 hb));have HR3:=a0b R3;obtain⟨_,_,_,d2,_,fzB⟩:=B3.out.cells;obtain⟨_,⟨ra,rc,er⟩,_⟩:=B3.out.forms;subst er;have fB:=fzB 3;have s0:=d0h T3.out.ks.hq 0 rfl;have s1:=d0h T3.out.ks.hq 1 rfl;have s2:=d0h T3.out.ks.hq 2 rfl;have s3:=d0h T3.out.ks.hq 3 rfl;have s4:=d0h T3.out.ks.hq 4 rfl;have d2A:∀ o,(Z3.alloc o).cell? ⟨B,3,none⟩=some (.slice ra X2.length rc):=fun o=>a0a ((zr _ Z3).alloc (zq _) o) d2
   have DD:=a0b (fun o=>a1g B3.out.br.b2.own (((zr _ Z3).alloc (zq _) o).drew));have hBr:(Value.slice ra X2.length rc).ownBlock≠some B:=c8L B3.out.br.b2.own B3.out.hb (by decide);clear R3 fzB
   go_region_law (first
    |(refine step_append_lies _ rfl _ _ 81 rfl 0 tS j0 _ 5 104 Tryz.underlying81 hj0 jz0 jz1 jz2 rfl (by decide) (.slice ra X2.length rc) X2.length (X2.flatMap klV) rfl (DD.out _) ⟨Z3.heap.size,0,none⟩ 1 1 (klV (.slice a k cp,.slice (some ⟨g6,0,none⟩) (k+1) c6,.slice (some ⟨g7,0,none⟩) (k+2) c7,.slice (some ⟨g8,0,none⟩) (k+3) c8,m)) rfl rfl (World.news_of_block (cs:=(klV (.slice a k cp,.slice (some ⟨g6,0,none⟩) (k+1) c6,.slice (some ⟨g7,0,none⟩) (k+2) c7,.slice (some ⟨g8,0,none⟩) (k+3) c8,m)).toArray) (a0p Z3 _)) (by simp[klV,Value.oneCell']) (by omega) (by unfold maxLen;omega) (by omega) (zN _) (Z3.heap.size+1) (by simp) ?_;intro g9 c9 w9 o9 hgrow at9 hlt9;have k9:Off ((Value.slice ra X2.length rc).ownBlock.toList) Z3 w9:=Off.grown (((Off.refl _ Z3).alloc _).drew) hgrow (fun k hk=>.inl (by simp[hk]));have d9:=k9.cell (fun e=>hBr (by simpa using e)) d2;have f9:=(k9.frozen (fun e=>hBr (by simpa using e)) (World.block_lt_of_cell? _ _ d2)).trans fB))
   all_goals
    go_wp2_with fail
    (try simp only[Exit.inBlock,Exit.then]);refine bodyPost_end (results_none rfl _ _ _) rfl ?_
    refine⟨rfl,HB.out.kept2 B3.out T3.out hn HR3.out (Nat.le_trans HW.out.size HO.out.2.size) HK.out k9 o9 (fun b hb=>by
     simp[Value.ownBlock] at hb;subst hb
     exact at9.imp id (fun e=>by omega))⟩
variable {w:World}{B:Nat}{v0 v1 r1 r2 r3:Value}{K:List Nat}{X1 X2 X3:List KL}
theorem e4K:(Tryz.prog.info? tE).map (fun i=>(i.zero,i.size,i.bytes))=some (some (.agg #[.slice none 0 0,.slice none 0 0,.slice none 0 0,.slice none 0 0,.int .i64 0]),5,104):=by kernel_rfl
theorem f1S:(Tryz.prog.info? 58).map (fun i=>(i.zero,i.size,i.bytes))=some (some (.agg #[.int .i64 0,.int .i64 0,.string ⟨#[]⟩,.int .i64 0,.slice none 0 0,.int .i64 0]),6,72):=by kernel_rfl
theorem g4q(hk:k*6+5<xs.length):((((((rp (e0j m) k++xs.drop (k*6)).set (k*6) (.int .i64 m)).set (k*6+1) (.int .i64 0)).set (k*6+2) (.string ⟨#[]⟩)).set (k*6+3) (.int .i64 m)).set (k*6+4) (.slice none 0 0)).set (k*6+5) (.int .i64 0)=rp (e0j m) (k+1)++xs.drop ((k+1)*6):=by
 have hl:(rp (e0j m) k).length=k*6:=by rw[d4O];simp
 have e2:(k+1)*6=k*6+1+1+1+1+1+1:=by omega
 rw[List.drop_eq_getElem_cons (show k*6<xs.length by omega),List.drop_eq_getElem_cons (show k*6+1<xs.length by omega),List.drop_eq_getElem_cons (show k*6+1+1<xs.length by omega),List.drop_eq_getElem_cons (show k*6+1+1+1<xs.length by omega),List.drop_eq_getElem_cons (show k*6+1+1+1+1<xs.length by omega),List.drop_eq_getElem_cons (show k*6+1+1+1+1+1<xs.length by omega),e6y,List.append_assoc,e2];generalize rp (e0j m) k=A at *
 subst_vars
 simp only[<- hl,List.set_append,Nat.lt_irrefl,if_false,Nat.sub_self,Nat.not_lt_of_le (Nat.le_add_right _ _),Nat.add_sub_cancel_left];rfl
theorem BK.kept3{e:TypeId}(h:BK w B v0 v1 K r1 r2 r3 X1 X2 X3)(h3:BK Z3 B v0 v1 K r1 r2 r3 X1 X2 X3)(hT:KF (e0j m) e wr Z3 l n Q o [(c,n+3),(b,n+2),(a,n+1),(l,n)])(hn:n<=900000)(R3:Off l.ownBlock.toList w Z3)(hw:w.heap.size<=wr.heap.size)(hlK:∀ b,l.ownBlock=some b->b ∉ K/\b ∉ bkB B r1 r2 r3)
  (k9:Off r3.ownBlock.toList Z3 w9) (o9:w9.ownsRow 0 tE 5 r' (X3.length+1) (X3.flatMap klV++klV (l,a,b,c,m))) (hat:g2M Z3 r3 r'):e5M w B v0 v1 K r1 r2 r3 l (X1.length+X2.length+X3.length) (w9.setCell ⟨B,4,none⟩ r') :=
 BK.kept hT R3 hw (by simp;omega) (fun q hq=>by
  simp only[bkB,List.mem_cons,List.mem_append,Option.mem_toList] at hq ⊢;rcases hq with rfl|hq|hq|hq
  ·exact .inl (.inl rfl)
  ·exact .inl (.inr (.inl hq))
  ·exact .inl (.inr (.inr (.inl hq)))
  ·exact (hat q hq).imp (fun e=>.inr (.inr (.inr e))) id) (h3.add3 (hT.k4 (P:=e0j) hn) (h.apart hT hw hlK) k9 o9 hat)
theorem d8E(h:BK w B v0 v1 K r1 r2 r3 X1 X2 X3)(h1:X1.length<=1000000000)(h2:X2.length<=1000000000)(h3:X3.length<=1000000000)(hl:w.ownsRow 0 58 6 l n xs)(hn:n<=900000)(hlK:∀ b,l.ownBlock=some b->b ∉ K/\b ∉ bkB B r1 r2 r3):
  Calls Tryz.prog 122 #[.pointer (some ⟨B,2,none⟩),l] w fun e w'=>e=.returned (.tuple #[])/\e5M w B v0 v1 K r1 r2 r3 l (X1.length+X2.length+X3.length) w':=by
 obtain⟨i0,hi0,hz0,hz1,hz2⟩:=info_parts f1S;obtain⟨j0,hj0,jz0,jz1,jz2⟩:=info_parts e4K;obtain⟨a,cp,rfl⟩:=c9y hl;have HB:=a0b h;have HL:=a0b hl;have HK:=a0b hlK;have HLT:=a0b (fun b (hb:(Value.slice a n cp).ownBlock=some b)=>c7O hl hb);have hxl:xs.length=n*6:=hl.1;clear h hl hlK
 go_enter Tryz.func122,Tryz.ntmps122
 go_upto_region 3 with (first|(go_at_call 184;refine (e1W HB.out h1 h2 h3).mono ?_;rintro e w1 ⟨rfl,hb⟩;have H1:=a0b hb;clear hb))
 generalize hmm:f8N X1 X2 X3=m;change Code.wp _ _ _ _ (w1.alloc (.cells #[.int .i64 m,.int .i64 0,.string ⟨#[]⟩,.int .i64 m,.slice none 0 0,.int .i64 0] 58));have HW:=a0b (a0j H1.out ((zr _ w1).alloc (zq _) (.cells #[.int .i64 m,.int .i64 0,.string ⟨#[]⟩,.int .i64 m,.slice none 0 0,.int .i64 0] 58)) (zq _));have hS:w1.heap.size ∉ (Value.slice a n cp).ownBlock.toList:=fun e=>by have:=HLT.out _ (by simpa using e);have:=H1.out.size;omega
 have BX:Hid (∀ Z,Off (Value.slice a n cp).ownBlock.toList (w1.alloc (.cells #[.int .i64 m,.int .i64 0,.string ⟨#[]⟩,.int .i64 m,.slice none 0 0,.int .i64 0] 58)) Z->Z.cell? ⟨w1.heap.size,0,none⟩=some (.int .i64 m)/\Z.cell? ⟨w1.heap.size,1,none⟩=some (.int .i64 0)/\Z.cell? ⟨w1.heap.size,2,none⟩=some (.string ⟨#[]⟩)/\Z.cell? ⟨w1.heap.size,3,none⟩=some (.int .i64 m)/\Z.cell? ⟨w1.heap.size,4,none⟩=some (.slice none 0 0)/\Z.cell? ⟨w1.heap.size,5,none⟩=some (.int .i64 0)):=fun Z k=>⟨k.cell hS (d0h (a0p w1 _) 0 rfl),k.cell hS (d0h (a0p w1 _) 1 rfl),k.cell hS (d0h (a0p w1 _) 2 rfl),k.cell hS (d0h (a0p w1 _) 3 rfl),k.cell hS (d0h (a0p w1 _) 4 rfl),k.cell hS (d0h (a0p w1 _) 5 rfl)⟩
 clear hS;generalize w1.alloc (.cells #[.int .i64 m,.int .i64 0,.string ⟨#[]⟩,.int .i64 m,.slice none 0 0,.int .i64 0] 58)=W1 at HW BX ⊢;generalize w1.heap.size=S at BX ⊢;have HL1:=a0b (a1g HL.out HW.out)
 go_loopw [6] (fun v wr=>∃ k:Nat,k<=n/\v=.int .i64 k/\wr.ownsRow 0 58 6 (.slice a n cp) n (rp (e0j m) k++xs.drop (k*6))/\Off (Value.slice a n cp).ownBlock.toList W1 wr) (fun v _=>n-(intOf v).toNat)
 case atStart=>exact⟨0,Nat.zero_le _,rfl,by simpa[e6x] using HL1.out,Off.refl _ _⟩
 case round =>
  obtain⟨k,hk,rfl,hown,hof⟩:=hrel;have HO:=a0b (zA hown hof)
  by_cases hlt:k<n
  ·have hlt':(k:Int)<(n:Int):=by omega
   obtain⟨y0,y1,y2,y3,y4,y5⟩:=BX.out _ hof;have hlen:(rp (e0j m) k++xs.drop (k*6)).length=n*6:=by rw[List.length_append,d4O,List.length_drop];simp;omega
   obtain⟨g,cap,u,e,c0,fz⟩:=d1o hown (k:=k*6) (by omega);obtain⟨g',cap',u1,e',c1,_⟩:=d1o hown (k:=k*6+1) (by omega);rw[e] at e';simp only[Value.slice.injEq,Option.some.injEq,Addr.mk.injEq,and_true,true_and] at e';obtain⟨rfl,rfl⟩:=e';obtain⟨g',cap',u2,e',c2,_⟩:=d1o hown (k:=k*6+2) (by omega);rw[e] at e';simp only[Value.slice.injEq,Option.some.injEq,Addr.mk.injEq,and_true,true_and] at e';obtain⟨rfl,rfl⟩:=e';obtain⟨g',cap',u3,e',c3,_⟩:=d1o hown (k:=k*6+3) (by omega);rw[e] at e';simp only[Value.slice.injEq,Option.some.injEq,Addr.mk.injEq,and_true,true_and] at e';obtain⟨rfl,rfl⟩:=e';obtain⟨g',cap',u4,e',c4,_⟩:=d1o hown (k:=k*6+4) (by omega);rw[e] at e';simp only[Value.slice.injEq,Option.some.injEq,Addr.mk.injEq,and_true,true_and] at e';obtain⟨rfl,rfl⟩:=e';obtain⟨g',cap',u5,e',c5,_⟩:=d1o hown (k:=k*6+5) (by omega);rw[e] at e';simp only[Value.slice.injEq,Option.some.injEq,Addr.mk.injEq,and_true,true_and] at e';obtain⟨rfl,rfl⟩:=e';simp only[Value.slice.injEq,true_and] at e;obtain⟨rfl,rfl⟩:=e;have f0:=fz (k*6);have f1:=fz (k*6+1);have f2:=fz (k*6+2);have f3:=fz (k*6+3);have f4:=fz (k*6+4);have f5:=fz (k*6+5);clear hown hof
   go_wp2_with fail
   go_roundw
   case rel =>
    refine⟨k+1,by omega,by go_num,?_,(((((HO.out.2.setCell (.inl (by simp[Value.ownBlock])) _ _).setCell (.inl (by simp[Value.ownBlock])) _ _).setCell (.inl (by simp[Value.ownBlock])) _ _).setCell (.inl (by simp[Value.ownBlock])) _ _).setCell (.inl (by simp[Value.ownBlock])) _ _).setCell (.inl (by simp[Value.ownBlock])) _ _⟩;have:=(d1L (d1L (d1L (d1L (d1L (d1L HO.out.1 (b:=g) rfl (k*6) (.int .i64 m)) (b:=g) rfl (k*6+1) (.int .i64 0)) (b:=g) rfl (k*6+2) (.string ⟨#[]⟩)) (b:=g) rfl (k*6+3) (.int .i64 m)) (b:=g) rfl (k*6+4) (.slice none 0 0)) (b:=g) rfl (k*6+5) (.int .i64 0));rw[g4q (by omega)] at this;exact this
   case measure=>simp[intOf];omega
  ·have hlt':¬ (k:Int)<(n:Int):=by omega
   have hkn:k=n:=by omega
   subst hkn
   have HR:Hid (wr.ownsRow 0 58 6 (.slice a k cp) k (rp (e0j m) k)):=by
    have:=HO.out.1;rw[List.drop_eq_nil_of_le (by omega),List.append_nil] at this;exact this
   clear hown hof;obtain⟨y0,y1,y2,y3,y4,y5⟩:=BX.out _ HO.out.2
   go_upto_region 7 with fail
   change Code.wp _ _ _ _ (wr.alloc (.cells #[.slice a k cp,.slice none 0 0,.slice none 0 0,.slice none 0 0,.int .i64 m] tE))
   have S0:Hid (KS (e0j m) 58 wr (wr.alloc (.cells #[.slice a k cp,.slice none 0 0,.slice none 0 0,.slice none 0 0,.int .i64 m] tE)) (.slice a k cp) k wr.heap.size (.cells #[.slice a k cp,.slice none 0 0,.slice none 0 0,.slice none 0 0,.int .i64 m] tE)) :=
    ⟨HR.out.alloc _,a0p _ _,Nat.le_refl _,(Off.refl _ _).alloc _,fun b hb=>c7O HR.out hb⟩
   have T0:Hid (KF (e0j m) 58 wr (wr.alloc (.cells #[.slice a k cp,.slice none 0 0,.slice none 0 0,.slice none 0 0,.int .i64 m] tE)) (.slice a k cp) k wr.heap.size (.cells #[.slice a k cp,.slice none 0 0,.slice none 0 0,.slice none 0 0,.int .i64 m] tE) [(.slice a k cp,k)]) :=
    ⟨S0.out,fun p hp=>by
     rw[List.mem_singleton.1 hp]
     exact⟨Fu.of_own S0.out.own,fun b hb=>⟨by have:=S0.out.lt b hb;omega,c7O S0.out.own hb,.inl hb⟩⟩⟩
   clear S0;generalize wr.alloc (.cells #[.slice a k cp,.slice none 0 0,.slice none 0 0,.slice none 0 0,.int .i64 m] tE)=Z0 at T0 ⊢;obtain⟨y0,y1,y2,y3,y4,y5⟩:=BX.out _ (HO.out.2.trans T0.out.ks.off)
   go_upto_region 8 with (first|(at_builtin;go_loud (refine d6c rfl _ _ 34 rfl (e0j m) 72 Tryz.underlying34 hi0 hz0 hz1 hz2 (by decide) rfl (by simp) (by simp[Value.oneCell']) T0.out.ks.own (m:=1) (cs:=#[.int .i64 m,.int .i64 0,.string ⟨#[]⟩,.int .i64 m,.slice none 0 0,.int .i64 0]) (by simp[rp]) (by decide) (by decide) rfl rfl (by omega) (zN _) ?_);intro g6 c6 w6 o6 ol6 f6 k6 at6;have q6:=d0h (T0.out.ks.at_ k6).1 1 rfl;have z6:=(T0.out.ks.at_ k6).2 1))
   have T1:=a0b (T0.out.put o6 ol6 f6 k6 at6 (by simp) 1);generalize w6.setCell ⟨wr.heap.size,1,none⟩ (.slice (some ⟨g6,0,none⟩) (k+1) c6)=Z1 at T1 ⊢;clear y0 y1 y2 y3 y4 y5 o6 ol6 f6 k6 at6 q6 z6 T0;obtain⟨y0,y1,y2,y3,y4,y5⟩:=BX.out _ (HO.out.2.trans T1.out.ks.off)
   go_upto_region 9 with (first|(at_builtin;go_loud (refine d6c rfl _ _ 34 rfl (e0j m) 72 Tryz.underlying34 hi0 hz0 hz1 hz2 (by decide) rfl (by simp) (by simp[Value.oneCell']) T1.out.ks.own (m:=2) (cs:=#[.int .i64 m,.int .i64 0,.string ⟨#[]⟩,.int .i64 m,.slice none 0 0,.int .i64 0,.int .i64 m,.int .i64 0,.string ⟨#[]⟩,.int .i64 m,.slice none 0 0,.int .i64 0]) (by simp[rp]) (by decide) (by decide) rfl rfl (by omega) (zN _) ?_);intro g7 c7 w7 o7 ol7 f7 k7 at7;have q7:=d0h (T1.out.ks.at_ k7).1 2 rfl;have z7:=(T1.out.ks.at_ k7).2 2))
   have T2:=a0b (T1.out.put o7 ol7 f7 k7 at7 (by simp) 2);generalize w7.setCell ⟨wr.heap.size,2,none⟩ (.slice (some ⟨g7,0,none⟩) (k+2) c7)=Z2 at T2 ⊢;clear y0 y1 y2 y3 y4 y5 o7 ol7 f7 k7 at7 q7 z7 T1;obtain⟨y0,y1,y2,y3,y4,y5⟩:=BX.out _ (HO.out.2.trans T2.out.ks.off)
   go_upto_region 10 with (first|(at_builtin;go_loud (refine d6c rfl _ _ 34 rfl (e0j m) 72 Tryz.underlying34 hi0 hz0 hz1 hz2 (by decide) rfl (by simp) (by simp[Value.oneCell']) T2.out.ks.own (m:=3) (cs:=#[.int .i64 m,.int .i64 0,.string ⟨#[]⟩,.int .i64 m,.slice none 0 0,.int .i64 0,.int .i64 m,.int .i64 0,.string ⟨#[]⟩,.int .i64 m,.slice none 0 0,.int .i64 0,.int .i64 m,.int .i64 0,.string ⟨#[]⟩,.int .i64 m,.slice none 0 0,.int .i64 0]) (by simp[rp]) (by decide) (by decide) rfl rfl (by omega) (zN _) ?_);intro g8 c8 w8 o8 ol8 f8 k8 at8;have q8:=d0h (T2.out.ks.at_ k8).1 3 rfl;have z8:=(T2.out.ks.at_ k8).2 3))
   have T3:=a0b (T2.out.put o8 ol8 f8 k8 at8 (by simp) 3);generalize w8.setCell ⟨wr.heap.size,3,none⟩ (.slice (some ⟨g8,0,none⟩) (k+3) c8)=Z3 at T3 ⊢;clear y0 y1 y2 y3 y4 y5 o8 ol8 f8 k8 at8 q8 z8 T2;have R3:Off (Value.slice a k cp).ownBlock.toList w Z3:=(Off.of_below HW.out).trans (HO.out.2.trans T3.out.ks.off);have HLK:=a0b (fun b (hb:b∈(Value.slice a k cp).ownBlock.toList)=>HK.out b (by simpa using hb));have B3:=a0b (HB.out.off R3 (fun b hb e=>(HLK.out b e).2 hb) (fun b hb e=>(HLK.out b e).1 hb));have HR3:=a0b R3;obtain⟨_,_,_,_,d2,fzB⟩:=B3.out.cells;obtain⟨_,_,ra,rc,er⟩:=B3.out.forms;subst er;have fB:=fzB 4;have s0:=d0h T3.out.ks.hq 0 rfl;have s1:=d0h T3.out.ks.hq 1 rfl;have s2:=d0h T3.out.ks.hq 2 rfl;have s3:=d0h T3.out.ks.hq 3 rfl;have s4:=d0h T3.out.ks.hq 4 rfl;have d2A:∀ o,(Z3.alloc o).cell? ⟨B,4,none⟩=some (.slice ra X3.length rc):=fun o=>a0a ((zr _ Z3).alloc (zq _) o) d2
   have DD:=a0b (fun o=>a1g B3.out.br.b3.own (((zr _ Z3).alloc (zq _) o).drew));have hBr:(Value.slice ra X3.length rc).ownBlock≠some B:=c8L B3.out.br.b3.own B3.out.hb (by decide);clear R3 fzB
   go_region_law (first
    |(refine step_append_lies _ rfl _ _ 82 rfl 0 tE j0 _ 5 104 Tryz.underlying82 hj0 jz0 jz1 jz2 rfl (by decide) (.slice ra X3.length rc) X3.length (X3.flatMap klV) rfl (DD.out _) ⟨Z3.heap.size,0,none⟩ 1 1 (klV (.slice a k cp,.slice (some ⟨g6,0,none⟩) (k+1) c6,.slice (some ⟨g7,0,none⟩) (k+2) c7,.slice (some ⟨g8,0,none⟩) (k+3) c8,m)) rfl rfl (World.news_of_block (cs:=(klV (.slice a k cp,.slice (some ⟨g6,0,none⟩) (k+1) c6,.slice (some ⟨g7,0,none⟩) (k+2) c7,.slice (some ⟨g8,0,none⟩) (k+3) c8,m)).toArray) (a0p Z3 _)) (by simp[klV,Value.oneCell']) (by omega) (by unfold maxLen;omega) (by omega) (zN _) (Z3.heap.size+1) (by simp) ?_;intro g9 c9 w9 o9 hgrow at9 hlt9;have k9:Off ((Value.slice ra X3.length rc).ownBlock.toList) Z3 w9:=Off.grown (((Off.refl _ Z3).alloc _).drew) hgrow (fun k hk=>.inl (by simp[hk]));have d9:=k9.cell (fun e=>hBr (by simpa using e)) d2;have f9:=(k9.frozen (fun e=>hBr (by simpa using e)) (World.block_lt_of_cell? _ _ d2)).trans fB))
   all_goals
    go_wp2_with fail
    (try simp only[Exit.inBlock,Exit.then]);refine bodyPost_end (results_none rfl _ _ _) rfl ?_
    refine⟨rfl,HB.out.kept3 B3.out T3.out hn HR3.out (Nat.le_trans HW.out.size HO.out.2.size) HK.out k9 o9 (fun b hb=>by
     simp[Value.ownBlock] at hb;subst hb
     exact at9.imp id (fun e=>by omega))⟩
open Desk (Ent)
variable {w w1 w2:World}{B:Nat}{v0 v1 r1 r2 r3 q1 q2 q3:Value}{K K1 L:List Nat}{X1 X2 X3 Y1 Y2 Y3:List KL}{m:Nat}
structure KBk(w:World)(B:Nat)(v0 v1:Value)(K:List Nat)(r1 r2 r3:Value)(L:List Nat)(m:Nat)(w1:World)(K1:List Nat)(q1 q2 q3:Value)(Y1 Y2 Y3:List KL):Prop where
 bk:BK w1 B v0 v1 K1 q1 q2 q3 Y1 Y2 Y3
 len:Y1.length+Y2.length+Y3.length=m
 off:Off (L++bkB B r1 r2 r3) w w1
 kk:∀ b∈K1,b∈K\/b∈L\/w.heap.size<=b
 rr:∀ b∈bkB B q1 q2 q3,b∈bkB B r1 r2 r3\/w.heap.size<=b
theorem KBk.refl(h:BK w B v0 v1 K r1 r2 r3 X1 X2 X3):KBk w B v0 v1 K r1 r2 r3 [] (X1.length+X2.length+X3.length) w K r1 r2 r3 X1 X2 X3:=⟨h,rfl,Off.refl _ _,fun _ hb=>.inl hb,fun _ hb=>.inl hb⟩
theorem KBk.step(h:KBk w B v0 v1 K r1 r2 r3 L m w1 K1 q1 q2 q3 Y1 Y2 Y3)(k:e5M w1 B v0 v1 K1 q1 q2 q3 l (Y1.length+Y2.length+Y3.length) w2):∃ K2 p1 p2 p3 Z1 Z2 Z3,KBk w B v0 v1 K r1 r2 r3 (L++l.ownBlock.toList) (m+1) w2 K2 p1 p2 p3 Z1 Z2 Z3:=by
 obtain⟨K2,p1,p2,p3,Z1,Z2,Z3,k1,k2,k3,k4,k5⟩:=k;have hs:=h.off.size;refine⟨K2,p1,p2,p3,Z1,Z2,Z3,k1,by rw[k2,h.len],?_,fun b hb=>?_,fun b hb=>?_⟩
 ·refine (h.off.mono fun x hx=>?_).trans' k3 fun x hx=>?_
  ·rcases List.mem_append.1 hx with hx|hx
   ·exact List.mem_append_left _ (List.mem_append_left _ hx)
   ·exact List.mem_append_right _ hx
  ·rcases List.mem_append.1 hx with hx|hx
   ·exact .inl (List.mem_append_left _ (List.mem_append_right _ hx))
   ·exact (h.rr x hx).imp (fun e=>List.mem_append_right _ e) id
 ·rcases k4 b hb with e|e|e
  ·rcases h.kk b e with e|e|e
   ·exact .inl e
   ·exact .inr (.inl (List.mem_append_left _ e))
   ·exact .inr (.inr e)
  ·exact .inr (.inl (List.mem_append_right _ (by simpa using e)))
  ·exact .inr (.inr (by omega))
 ·rcases k5 b hb with e|e
  ·exact h.rr b e
  ·exact .inr (by omega)
theorem KBk.free(h:KBk w B v0 v1 K r1 r2 r3 L m w1 K1 q1 q2 q3 Y1 Y2 Y3)(hl:∀ b,l.ownBlock=some b->b<w.heap.size/\b ∉ K/\b ∉ bkB B r1 r2 r3/\b ∉ L):∀ b,l.ownBlock=some b->b ∉ K1/\b ∉ bkB B q1 q2 q3:=fun b hb=>by
 obtain⟨h1,h2,h3,h4⟩:=hl b hb;refine⟨fun e=>?_,fun e=>?_⟩
 ·rcases h.kk b e with e|e|e
  ·exact h2 e
  ·exact h4 e
  ·omega
 ·rcases h.rr b e with e|e
  ·exact h3 e
  ·omega
theorem KBk.own(h:KBk w B v0 v1 K r1 r2 r3 L m w1 K1 q1 q2 q3 Y1 Y2 Y3){t:Nat}(ho:w.ownsRow 0 t z l n xs)(hl:∀ b,l.ownBlock=some b->b<w.heap.size/\b ∉ K/\b ∉ bkB B r1 r2 r3/\b ∉ L):w1.ownsRow 0 t z l n xs :=
 a1i ho h.off fun b hb e=>by
  rcases List.mem_append.1 e with e|e
  ·exact (hl b hb).2.2.2 e
  ·exact (hl b hb).2.2.1 e
theorem KBk.len3(h:KBk w B v0 v1 K r1 r2 r3 L m w1 K1 q1 q2 q3 Y1 Y2 Y3)(hm:m<=1000000000):Y1.length<=1000000000/\Y2.length<=1000000000/\Y3.length<=1000000000:=by
 have:=h.len;omega
structure d9C(w:World)(K:List Nat)(N:List Nat)(u1 u2 u3 u4:Value)(l:List (Ent × Value))(d g e:List Int):Prop where
 en:w.ownsRow 0 58 6 u1 l.length (l.flatMap a1f)
 sp:∀ p∈l,w.ownsRow 0 60 2 p.2 p.1.a0e.length (p.1.a0e.flatMap spV)
 da:w.ownsRow 0 3 1 u2 d.length (d.map (Value.int .i64))
 gr:w.ownsRow 0 3 1 u3 g.length (g.map (Value.int .i64))
 ed:w.ownsRow 0 3 1 u4 e.length (e.map (Value.int .i64))
 pw:l.Pairwise fun p q=>∀ b,p.2.ownBlock=some b->q.2.ownBlock≠some b
 dg:∀ b,u2.ownBlock=some b->u3.ownBlock≠some b/\u4.ownBlock≠some b
 ge:∀ b,u3.ownBlock=some b->u4.ownBlock≠some b
 no:∀ b,(u1.ownBlock=some b\/u2.ownBlock=some b\/u3.ownBlock=some b\/u4.ownBlock=some b\/∃ p∈l,p.2.ownBlock=some b)->b ∉ K/\b ∉ N
def spB(l:List (Ent × Value)):List Nat:=l.flatMap fun p=>p.2.ownBlock.toList
def rlB(u1 u2 u3 u4:Value)(l:List (Ent × Value)):List Nat:=spB l++u1.ownBlock.toList++u2.ownBlock.toList++u3.ownBlock.toList++u4.ownBlock.toList
theorem d8h{l:List (Ent × Value)}{b:Nat}(h:b∈spB l):∃ p∈l,p.2.ownBlock=some b:=by
 obtain⟨p,hp,hb⟩:=List.mem_flatMap.1 h;exact⟨p,hp,by simpa using hb⟩
theorem g1i{l:List (Ent × Value)}(hk:k<l.length):(l.flatMap a1f)[k*6+4]?=some (l[k]).2:=by
 induction l generalizing k with
 |nil=>simp at hk
 |cons a r ih =>
  cases k with
  |zero=>simp[a1f]
  |succ k =>
   have:=ih (k:=k) (by simpa using hk);rw[List.flatMap_cons,List.getElem?_append_right (by simp[a1f];omega)];simp only[a1f,List.length_cons,List.length_nil,List.getElem_cons_succ];rw[<- this]
   congr 1
   omega
section
variable {u1 u2 u3 u4:Value}{l:List (Ent × Value)}{d g e:List Int}
theorem d9C.spf(h:d9C w K (bkB B r1 r2 r3) u1 u2 u3 u4 l d g e)(hk:k<l.length):∀ b,(l[k]).2.ownBlock=some b->b<w.heap.size/\b ∉ K/\b ∉ bkB B r1 r2 r3/\b ∉ spB (l.take k):=fun b hb=>by
 have hm:=zg hk;obtain⟨n1,n2⟩:=h.no b (.inr (.inr (.inr (.inr ⟨_,hm,hb⟩))));refine⟨c7O (h.sp _ hm) hb,n1,n2,fun hx=>?_⟩;obtain⟨p,hp,hpb⟩:=d8h hx;obtain⟨i,hi,rfl⟩:=List.mem_iff_getElem.1 hp;rw[List.length_take] at hi;rw[List.getElem_take] at hpb;exact List.pairwise_iff_getElem.1 h.pw i k (by omega) hk (by omega) b hpb hb
theorem d9C.enf(h:d9C w K (bkB B r1 r2 r3) u1 u2 u3 u4 l d g e):∀ b,u1.ownBlock=some b->b<w.heap.size/\b ∉ K/\b ∉ bkB B r1 r2 r3/\b ∉ spB l:=fun b hb=>by
 obtain⟨n1,n2⟩:=h.no b (.inl hb);refine⟨c7O h.en hb,n1,n2,fun hx=>?_⟩;obtain⟨p,hp,hpb⟩:=d8h hx;exact e1D h.en (h.sp p hp) (by decide) hb hpb
theorem d9C.spI(h:d9C w K (bkB B r1 r2 r3) u1 u2 u3 u4 l d g e)(ho:w.ownsRow 0 3 1 u n xs){b:Nat}(hb:u.ownBlock=some b):b ∉ spB l++u1.ownBlock.toList:=fun hx=>by
 rcases List.mem_append.1 hx with hx|hx
 ·obtain⟨p,hp,hpb⟩:=d8h hx;exact e1D ho (h.sp p hp) (by decide) hb hpb
 ·exact e1D ho h.en (by decide) hb (by simpa using hx)
theorem d9C.daf(h:d9C w K (bkB B r1 r2 r3) u1 u2 u3 u4 l d g e):∀ b,u2.ownBlock=some b->b<w.heap.size/\b ∉ K/\b ∉ bkB B r1 r2 r3/\b ∉ spB l++u1.ownBlock.toList:=fun b hb=>by
 obtain⟨n1,n2⟩:=h.no b (.inr (.inl hb));exact⟨c7O h.da hb,n1,n2,h.spI h.da hb⟩
theorem d9C.grf(h:d9C w K (bkB B r1 r2 r3) u1 u2 u3 u4 l d g e):∀ b,u3.ownBlock=some b->b<w.heap.size/\b ∉ K/\b ∉ bkB B r1 r2 r3/\b ∉ spB l++u1.ownBlock.toList++u2.ownBlock.toList:=fun b hb=>by
 obtain⟨n1,n2⟩:=h.no b (.inr (.inr (.inl hb)));refine⟨c7O h.gr hb,n1,n2,fun hx=>?_⟩;rcases List.mem_append.1 hx with hx|hx
 ·exact h.spI h.gr hb hx
 ·exact (h.dg b (by simpa using hx)).1 hb
theorem d9C.edf(h:d9C w K (bkB B r1 r2 r3) u1 u2 u3 u4 l d g e):∀ b,u4.ownBlock=some b->b<w.heap.size/\b ∉ K/\b ∉ bkB B r1 r2 r3/\b ∉ spB l++u1.ownBlock.toList++u2.ownBlock.toList++u3.ownBlock.toList:=fun b hb=>by
 obtain⟨n1,n2⟩:=h.no b (.inr (.inr (.inr (.inl hb))));refine⟨c7O h.ed hb,n1,n2,fun hx=>?_⟩;rcases List.mem_append.1 hx with hx|hx
 ·rcases List.mem_append.1 hx with hx|hx
  ·exact h.spI h.ed hb hx
  ·exact (h.dg b (by simpa using hx)).2 hb
 ·exact h.ge b (by simpa using hx) hb
theorem d9C.later(h:d9C w K L u1 u2 u3 u4 l d g e)(k:Below w.heap.size w w1):d9C w1 K L u1 u2 u3 u4 l d g e :=
 ⟨a1g h.en k,fun p hp=>a1g (h.sp p hp) k,a1g h.da k,a1g h.gr k,a1g h.ed k,h.pw,h.dg,h.ge,h.no⟩
theorem d9C.lt(h:d9C w K L u1 u2 u3 u4 l d g e):∀ b∈rlB u1 u2 u3 u4 l,b<w.heap.size:=fun b hb=>by
 simp only[rlB,List.mem_append,Option.mem_toList] at hb;rcases hb with (((hb|hb)|hb)|hb)|hb
 ·obtain⟨p,hp,hpb⟩:=d8h hb;exact c7O (h.sp p hp) hpb
 ·exact c7O h.en hb
 ·exact c7O h.da hb
 ·exact c7O h.gr hb
 ·exact c7O h.ed hb
theorem e4k{t:Nat}(h:W.ownsRow b0 t z v n xs)(hk:xs[k]?=some u):∃ g cap,v=.slice (some ⟨g,0,none⟩) n cap/\W.cell? ⟨g,k,none⟩=some u:=by
 rcases h.2 with ⟨rfl,rfl⟩|⟨g,cap,cur,rfl,_,hh,_⟩
 ·have:=h.1;rw[Nat.zero_mul,List.length_eq_zero_iff] at this;simp[this] at hk
 ·exact⟨g,cap,rfl,(f6U g k) ▸ h.cells (g:=g) rfl k u hk⟩
theorem f8d{l:List (Ent × Value)}(hk:k<l.length):spB (l.take (k+1))=spB (l.take k)++(l[k]).2.ownBlock.toList:=by
 unfold spB;rw[List.take_succ_eq_append_getElem hk,List.flatMap_append];simp
theorem f3I{l:List (Ent × Value)}{b:Nat}(h:b∈spB (l.take k)):b∈spB l:=by
 obtain⟨p,hp,hb⟩:=List.mem_flatMap.1 h;exact List.mem_flatMap.2 ⟨p,List.mem_of_mem_take hp,hb⟩
def d9E(er at_ n:Int)(u1 u2 u3 u4:Value):Obj:=.cells #[.int .i64 er,.int .i64 at_,.int .i64 n,u1,u2,u3,u4] 40 (0,0)
theorem KBk.box(h:KBk w B v0 v1 K r1 r2 r3 L m w1 K1 q1 q2 q3 Y1 Y2 Y3)(hQ:w.heap[Q]?=some o)(hL:Q ∉ L)(hB:Q ∉ bkB B r1 r2 r3):w1.heap[Q]?=some o :=
 (h.off.block Q (Array.getElem?_eq_some_iff.1 hQ).1 (fun e=>by
  rcases List.mem_append.1 e with e|e
  ·exact hL e
  ·exact hB e)).trans hQ
theorem KBk.down{X:World}(k:Below w.heap.size w X)(h:KBk X B v0 v1 K r1 r2 r3 L m w1 K1 q1 q2 q3 Y1 Y2 Y3):KBk w B v0 v1 K r1 r2 r3 L m w1 K1 q1 q2 q3 Y1 Y2 Y3 :=
 ⟨h.bk,h.len,(Off.of_below k).trans h.off,fun b hb=>(h.kk b hb).imp id (Or.imp id fun e=>Nat.le_trans k.size e),fun b hb=>(h.rr b hb).imp id fun e=>Nat.le_trans k.size e⟩
def d9T(X:World)(B:Nat)(v0 v1:Value)(K:List Nat)(r1 r2 r3:Value)(L:List Nat)(m:Nat)(wr:World):Prop:=∃ K2 p1 p2 p3 Z1 Z2 Z3,KBk X B v0 v1 K r1 r2 r3 L m wr K2 p1 p2 p3 Z1 Z2 Z3
theorem d9T.ints(h:d9T w B v0 v1 K r1 r2 r3 L m w1)(hm:m<=1000000000)(ho:w.ownsRow 0 3 1 u n xs)(hn:n<=900000)(hl:∀ b,u.ownBlock=some b->b<w.heap.size/\b ∉ K/\b ∉ bkB B r1 r2 r3/\b ∉ L):
  Calls Tryz.prog 123 #[.pointer (some ⟨B,2,none⟩),u] w1 fun e w'=>e=.returned (.tuple #[])/\d9T w B v0 v1 K r1 r2 r3 (L++u.ownBlock.toList) (m+1) w':=by
 obtain⟨K1,q1,q2,q3,Y1,Y2,Y3,k⟩:=h;obtain⟨y1,y2,y3⟩:=k.len3 hm;refine (e4A k.bk y1 y2 y3 (k.own ho hl) hn (k.free hl)).mono ?_;rintro e w2 ⟨rfl,h2⟩;exact⟨rfl,k.step h2⟩
theorem d9T.a0e(h:d9T w B v0 v1 K r1 r2 r3 L m w1)(hm:m<=1000000000)(ho:w.ownsRow 0 60 2 u n xs)(hn:n<=900000)(hl:∀ b,u.ownBlock=some b->b<w.heap.size/\b ∉ K/\b ∉ bkB B r1 r2 r3/\b ∉ L):
  Calls Tryz.prog 121 #[.pointer (some ⟨B,2,none⟩),u] w1 fun e w'=>e=.returned (.tuple #[])/\d9T w B v0 v1 K r1 r2 r3 (L++u.ownBlock.toList) (m+1) w':=by
 obtain⟨K1,q1,q2,q3,Y1,Y2,Y3,k⟩:=h;obtain⟨y1,y2,y3⟩:=k.len3 hm;refine (e2e k.bk y1 y2 y3 (k.own ho hl) hn (k.free hl)).mono ?_;rintro e w2 ⟨rfl,h2⟩;exact⟨rfl,k.step h2⟩
theorem d9T.entries(h:d9T w B v0 v1 K r1 r2 r3 L m w1)(hm:m<=1000000000)(ho:w.ownsRow 0 58 6 u n xs)(hn:n<=900000)(hl:∀ b,u.ownBlock=some b->b<w.heap.size/\b ∉ K/\b ∉ bkB B r1 r2 r3/\b ∉ L):
  Calls Tryz.prog 122 #[.pointer (some ⟨B,2,none⟩),u] w1 fun e w'=>e=.returned (.tuple #[])/\d9T w B v0 v1 K r1 r2 r3 (L++u.ownBlock.toList) (m+1) w':=by
 obtain⟨K1,q1,q2,q3,Y1,Y2,Y3,k⟩:=h;obtain⟨y1,y2,y3⟩:=k.len3 hm;refine (d8E k.bk y1 y2 y3 (k.own ho hl) hn (k.free hl)).mono ?_;rintro e w2 ⟨rfl,h2⟩;exact⟨rfl,k.step h2⟩
theorem f8V(h:BK w B v0 v1 K r1 r2 r3 X1 X2 X3)(hm:X1.length+X2.length+X3.length+l.length+4<=1000000000)(hr:d9C w K (bkB B r1 r2 r3) u1 u2 u3 u4 l d g e)(hl:l.length<=1000)(hs:∀ p∈l,p.1.a0e.length<=900000)(hd:d.length<=900000)(hg:g.length<=900000)(he:e.length<=900000)(er at_ n:Int):
  Calls Tryz.prog 77 #[.pointer (some ⟨B,2,none⟩),a0s er at_ n u1 u2 u3 u4] w fun x w'=>x=.returned (.tuple #[])/\d9T w B v0 v1 K r1 r2 r3 (rlB u1 u2 u3 u4 l) (X1.length+X2.length+X3.length+l.length+4) w':=by
 have kW:Below w.heap.size w (w.alloc (d9E er at_ n u1 u2 u3 u4)):=(zr _ _).alloc (zq _) _;have hQ:=a0p w (d9E er at_ n u1 u2 u3 u4);obtain⟨a1,c1,rfl⟩:=c9y hr.en;obtain⟨a2,c2,rfl⟩:=c9y hr.da;obtain⟨a3,c3,rfl⟩:=c9y hr.gr;obtain⟨a4,c4,rfl⟩:=c9y hr.ed;have RW:=a0b (hr.later kW);have HS:=a0b (zA hs (zA hd (zA hg he)))
 have BX:Hid (∀ L',(∀ b∈L',b∈rlB (.slice a1 l.length c1) (.slice a2 d.length c2) (.slice a3 g.length c3) (.slice a4 e.length c4) l)->∀ m' W,d9T (w.alloc (d9E er at_ n (.slice a1 l.length c1) (.slice a2 d.length c2) (.slice a3 g.length c3) (.slice a4 e.length c4))) B v0 v1 K r1 r2 r3 L' m' W->W.cell? ⟨w.heap.size,3,none⟩=some (.slice a1 l.length c1)/\W.cell? ⟨w.heap.size,4,none⟩=some (.slice a2 d.length c2)/\W.cell? ⟨w.heap.size,5,none⟩=some (.slice a3 g.length c3)/\W.cell? ⟨w.heap.size,6,none⟩=some (.slice a4 e.length c4)):=fun L' hL m' W k=>by
  obtain⟨K1,q1,q2,q3,Y1,Y2,Y3,k⟩:=k;have hb:=k.box hQ (fun hx=>by have:=hr.lt _ (hL _ hx);omega) (fun hx=>by have:=h.lt _ hx;omega);exact⟨d0h hb 3 rfl,d0h hb 4 rfl,d0h hb 5 rfl,d0h hb 6 rfl⟩
 have G0:Hid (d9T (w.alloc (d9E er at_ n (.slice a1 l.length c1) (.slice a2 d.length c2) (.slice a3 g.length c3) (.slice a4 e.length c4))) B v0 v1 K r1 r2 r3 [] (X1.length+X2.length+X3.length) (w.alloc (d9E er at_ n (.slice a1 l.length c1) (.slice a2 d.length c2) (.slice a3 g.length c3) (.slice a4 e.length c4)))):=⟨_,_,_,_,_,_,_,KBk.refl (h.later kW)⟩;have DN:Hid (∀ L' m' W,d9T (w.alloc (d9E er at_ n (.slice a1 l.length c1) (.slice a2 d.length c2) (.slice a3 g.length c3) (.slice a4 e.length c4))) B v0 v1 K r1 r2 r3 L' m' W->d9T w B v0 v1 K r1 r2 r3 L' m' W):=fun L' m' W ⟨K1,q1,q2,q3,Y1,Y2,Y3,k⟩=>⟨K1,q1,q2,q3,Y1,Y2,Y3,k.down kW⟩
 clear kW hQ h hr hs hd hg he;simp only[a0s]
 go_enter Tryz.func77,Tryz.ntmps77
 go_upto_region 1 with fail
 change Code.wp _ _ _ _ (w.alloc (d9E er at_ n (.slice a1 l.length c1) (.slice a2 d.length c2) (.slice a3 g.length c3) (.slice a4 e.length c4)));generalize w.alloc (d9E er at_ n (.slice a1 l.length c1) (.slice a2 d.length c2) (.slice a3 g.length c3) (.slice a4 e.length c4))=X at RW BX G0 DN ⊢;generalize hM:X1.length+X2.length+X3.length=M at *
 have hL0:Hid (∀ k,∀ b∈spB (l.take k),b∈rlB (.slice a1 l.length c1) (.slice a2 d.length c2) (.slice a3 g.length c3) (.slice a4 e.length c4) l):=fun k b hb=>by
  simp only[rlB,List.mem_append];exact .inl (.inl (.inl (.inl (f3I hb))))
 go_wp2_with fail
 go_loopw [4] (fun v wr=>∃ k:Nat,k<=l.length/\v=.int .i64 k/\d9T X B v0 v1 K r1 r2 r3 (spB (l.take k)) (M+k) wr) (fun v _=>l.length-(intOf v).toNat)
 case atStart=>exact⟨0,Nat.zero_le _,rfl,by simpa[spB] using G0.out⟩
 case round =>
  obtain⟨k,hk,rfl,hkb⟩:=hrel;have HK:=a0b hkb;obtain⟨x3,_,_,_⟩:=BX.out _ (hL0.out k) _ _ hkb;clear hkb
  by_cases hlt:k<l.length
  ·have hlt':(k:Int)<(l.length:Int):=by omega
   have SP:=a0b (d9T.a0e HK.out (by omega) (RW.out.sp _ (zg hlt)) (HS.out.1 _ (zg hlt)) (RW.out.spf hlt))
   have EC:∃ g cap,(Value.slice a1 l.length c1)=.slice (some ⟨g,0,none⟩) l.length cap/\wr.cell? ⟨g,k*6+4,none⟩=some (l[k]).2:=by
    obtain⟨K1,q1,q2,q3,Y1,Y2,Y3,kk⟩:=HK.out
    exact e4k (kk.own RW.out.en fun b hb=>by
     obtain⟨y1,y2,y3,y4⟩:=RW.out.enf b hb
     exact⟨y1,y2,y3,fun hx=>y4 (f3I hx)⟩) (g1i hlt)
   obtain⟨g0,cap0,e0,y4⟩:=EC;simp only[Value.slice.injEq,true_and] at e0;obtain⟨rfl,rfl⟩:=e0
   go_wp2_with (first
    |(go_at_call 121;refine SP.out.mono ?_;rintro e w1 ⟨rfl,h1⟩;have H1:=a0b h1;clear h1))
   go_roundw
   case rel=>exact⟨k+1,by omega,by go_num,by rw[f8d hlt,<- Nat.add_assoc];exact H1.out⟩
   case measure=>simp[intOf];omega
  ·have hlt':¬ (k:Int)<(l.length:Int):=by omega
   have hkn:k=l.length:=by omega
   subst hkn;rw[List.take_length] at HK;have sub1:Hid (∀ b∈spB l++(Value.slice a1 l.length c1).ownBlock.toList,b∈rlB (.slice a1 l.length c1) (.slice a2 d.length c2) (.slice a3 g.length c3) (.slice a4 e.length c4) l):=fun b hb=>by unfold rlB;exact List.mem_append_left _ (List.mem_append_left _ (List.mem_append_left _ hb))
   have sub2:Hid (∀ b∈spB l++(Value.slice a1 l.length c1).ownBlock.toList++(Value.slice a2 d.length c2).ownBlock.toList,b∈rlB (.slice a1 l.length c1) (.slice a2 d.length c2) (.slice a3 g.length c3) (.slice a4 e.length c4) l):=fun b hb=>by unfold rlB;exact List.mem_append_left _ (List.mem_append_left _ hb)
   have sub3:Hid (∀ b∈spB l++(Value.slice a1 l.length c1).ownBlock.toList++(Value.slice a2 d.length c2).ownBlock.toList++(Value.slice a3 g.length c3).ownBlock.toList,b∈rlB (.slice a1 l.length c1) (.slice a2 d.length c2) (.slice a3 g.length c3) (.slice a4 e.length c4) l):=fun b hb=>by unfold rlB;exact List.mem_append_left _ hb
   have C1:=a0b (d9T.entries HK.out (by omega) RW.out.en (by omega) RW.out.enf)
   go_upto_region 6 with (first|(go_at_call 122;refine C1.out.mono ?_;rintro e1 w1 ⟨rfl,h1⟩;have H1:=a0b h1;clear h1))
   obtain⟨_,x4,_,_⟩:=BX.out _ sub1.out _ _ H1.out;have C2:=a0b (d9T.ints H1.out (by omega) RW.out.da HS.out.2.1 RW.out.daf);clear x3 C1
   go_upto_region 7 with (first|(go_at_call 123;refine C2.out.mono ?_;rintro e1 w2 ⟨rfl,h2⟩;have H2:=a0b h2;clear h2))
   obtain⟨_,_,x5,_⟩:=BX.out _ sub2.out _ _ H2.out;have C3:=a0b (d9T.ints H2.out (by omega) RW.out.gr HS.out.2.2.1 RW.out.grf);clear x4 C2
   go_upto_region 8 with (first|(go_at_call 123;refine C3.out.mono ?_;rintro e1 w3 ⟨rfl,h3⟩;have H3:=a0b h3;clear h3))
   obtain⟨_,_,_,x6⟩:=BX.out _ sub3.out _ _ H3.out;have C4:=a0b (d9T.ints H3.out (by omega) RW.out.ed HS.out.2.2.2 RW.out.edf);clear x5 C3
   go_wp2_with (first|(go_at_call 123;refine C4.out.mono ?_;rintro e1 w4 ⟨rfl,h4⟩;have H4:=a0b h4;clear h4))
   (try simp only[Exit.inBlock,Exit.then]);refine bodyPost_end (results_none rfl _ _ _) rfl ?_
   exact⟨rfl,by rw[hM];exact DN.out _ _ _ H4.out⟩
end
namespace Desk
theorem b3t{a b:Int}{x:Ent}:∀ l:List Ent,(c0F a b x l).Perm (x :: l)
 |[]=>by simp[c0F]
 |y :: r=>by
  simp only[c0F]
  split
  ·exact List.Perm.refl _
  ·exact ((b3t r).cons y).trans (List.Perm.swap x y r)
theorem a3Y{a b:Int}:∀ l:List Ent,(b2J a b l).Perm l
 |[]=>List.Perm.refl _
 |x :: r=>(b3t _).trans ((a3Y r).cons x)
end Desk
namespace Desk
end Desk
namespace Desk
theorem b8H{l:a7U}(h:(a0g s l).2.err≠0):(a0g s l).2=Rep.error (a0g s l).2.err:=by
 cases l with
 |a0k name u =>
  simp only[a0g] at h ⊢
  by_cases c1:a0h name s.ts≠0
  ·rw[if_pos c1];rfl
  ·rw[if_neg c1] at h ⊢
   by_cases c2:s.ts.length=4
   ·rw[if_pos c2];rfl
   ·rw[if_neg c2] at h;exact absurd rfl h
 |enter k name u fr til long =>
  simp only[a0g] at h ⊢
  by_cases c:a1M s k name u fr til long≠0
  ·rw[if_pos c];rfl
  ·rw[if_neg c] at h;exact absurd rfl h
 |series name u r =>
  simp only[a0g] at h ⊢
  by_cases c:a2l s name u r≠0
  ·rw[if_pos c];rfl
  ·rw[if_neg c] at h;exact absurd rfl h
 |confirm id =>
  simp only[a0g] at h ⊢
  cases hf:a5S id s.es with
  |none=>rfl
  |some e =>
   rw[hf] at h;simp only at h ⊢
   by_cases c:e.kind≠2
   ·rw[if_pos c];rfl
   ·rw[if_neg c] at h;exact absurd rfl h
 |cancel id =>
  simp only[a0g] at h ⊢
  cases hf:a5S id s.es with
  |none=>rfl
  |some e=>rw[hf] at h;exact absurd rfl h
 |list name fr til =>
  simp only[a0g] at h ⊢
  by_cases c1:a0h name s.ts=0
  ·rw[if_pos c1];rfl
  ·rw[if_neg c1] at h ⊢
   by_cases c2:til<=fr
   ·rw[if_pos c2];rfl
   ·rw[if_neg c2] at h;exact absurd rfl h
 |waiting=>exact absurd rfl h
 |peak name fr til =>
  simp only[a0g] at h ⊢
  by_cases c1:a0h name s.ts=0
  ·rw[if_pos c1];rfl
  ·rw[if_neg c1] at h ⊢
   by_cases c2:til<=fr
   ·rw[if_pos c2];rfl
   ·rw[if_neg c2] at h;exact absurd rfl h
 |find name u long fr til =>
  simp only[a0g] at h ⊢
  by_cases c1:a0S s.ts name u≠0
  ·rw[if_pos c1];rfl
  ·rw[if_neg c1] at h ⊢
   by_cases c2:til<=fr
   ·rw[if_pos c2];rfl
   ·rw[if_neg c2] at h;exact absurd rfl h
 |expand r =>
  simp only[a0g] at h ⊢
  by_cases c:Rd.a6W r≠0
  ·rw[if_pos c];rfl
  ·rw[if_neg c] at h;exact absurd rfl h
 |tick n =>
  simp only[a0g] at h ⊢
  by_cases c:1048320<s.now+n
  ·rw[if_pos c];rfl
  ·rw[if_neg c] at h;exact absurd rfl h
 |clock=>exact absurd rfl h
theorem b7R{l:a7U}(h:(a1q s l).2.err≠0):(a1q s l).1=s/\(a1q s l).2=Rep.error (a1q s l).2.err:=by
 unfold a1q at h ⊢
 by_cases c:(a0g s l).2.err≠0
 ·rw[if_pos c];exact⟨b7g c,b8H c⟩
 ·rw[if_neg c] at h;exact absurd h c
end Desk
namespace Desk
theorem c3R:∀ (l:List Int)(a b:Int),l.Pairwise (· < ·)->(∀ x∈l,a<=x/\x<=b)->(l.length:Int)<=max 0 (b-a+1)
 |[],_,_,_,_=>by simp;omega
 |x :: r,a,b,hp,hb=>by
  obtain⟨h1,h2⟩:=List.pairwise_cons.1 hp;have hx:=hb x (List.mem_cons_self ..);have:=c3R r (x+1) b h2 (fun y hy=>⟨by have:=h1 y hy;omega,(hb y (List.mem_cons_of_mem _ hy)).2⟩);simp only[List.length_cons];omega
theorem c6C(h:Inv s):s.es.length<=60:=by
 have hi:(s.es.map (·.id)).Pairwise (· < ·):=h.ids;have hg:=h.g1
 have:=c3R _ 1 60 hi (fun x hx=>by
  obtain⟨e,he,rfl⟩:=List.mem_map.1 hx;have:=h.idb e he
  omega)
 rw[List.length_map] at this;omega
end Desk
namespace Desk
theorem d9a(p:Ent->Bool):∀ l:List Ent,(l.filter p).length+(l.filter fun e=>!p e).length=l.length
 |[]=>rfl
 |a :: r=>by
  have ih:=d9a p r;simp only[List.filter_cons]
  cases p a <;> simp <;> omega
theorem d8u(ts:List (ByteArray × Int)):∀ (k:Nat)(es:List Ent)(now tq:Int),(a1K ts k es now tq).2.1.length<=es.length
 |0,es,_,_=>by simp[a1K]
 |k+1,es,now,tq=>by
  simp only[a1K]
  split
  ·have h1:=d8u ts k (a0R ts (es.filter fun e=>!a0z (a3D tq es) e)).1 (a3D tq es) tq;have h2:=a7H ts (es.filter fun e=>!a0z (a3D tq es) e);have h3:=d9a (a0z (a3D tq es)) es;simp only[List.length_append,List.length_map];omega
  ·simp
structure f5z(s:St)(r:Rep):Prop where
 en:r.entries.length<=60
 es:∀ e∈r.entries,e∈s.es
 da:r.days.length<=60
 ed:r.ended.length<=60
theorem f5z.plain{r:Rep}(h1:r.entries=[])(h2:r.days=[])(h3:r.ended=[]):f5z s r:=⟨by rw[h1];simp,by rw[h1];simp,by rw[h2];simp,by rw[h3];simp⟩
theorem e7j(h:Inv s){l:a7U}(hl:a1O l):f5z s (a0g s l).2:=by
 cases l with
 |a0k name u=>simp only[a0g];split <;> first|exact .plain rfl rfl rfl|(split <;> exact .plain rfl rfl rfl)
 |enter k name u fr til long=>simp only[a0g];split <;> exact .plain rfl rfl rfl
 |series name u r=>simp only[a0g];split <;> exact .plain rfl rfl rfl
 |confirm id =>
  simp only[a0g]
  split
  ·exact .plain rfl rfl rfl
  ·split <;> exact .plain rfl rfl rfl
 |cancel id=>simp only[a0g];split <;> exact .plain rfl rfl rfl
 |list name fr til =>
  simp only[a0g]
  split
  ·exact .plain rfl rfl rfl
  ·split
   ·exact .plain rfl rfl rfl
   ·have hm:∀ e∈a2x name fr til s.es,e∈s.es:=fun e he=>(List.mem_filter.1 (a4U.1 he)).1
    have hlen:(a2x name fr til s.es).length<=60:=by
     have:=c6C h;have e:=(a3Y (a:=fr) (b:=til) (s.es.filter (b7U name fr til))).length_eq;have f:=List.length_filter_le (b7U name fr til) s.es;unfold a2x;omega
    exact⟨hlen,hm,by simp[Rep.num],by simp[Rep.num]⟩
 |waiting=>exact⟨Nat.le_trans (List.length_filter_le ..) (c6C h),fun e he=>(List.mem_filter.1 he).1,by simp[a0g,Rep.num],by simp[a0g,Rep.num]⟩
 |peak name fr til=>simp only[a0g];split <;> first|exact .plain rfl rfl rfl|(split <;> exact .plain rfl rfl rfl)
 |find name u long fr til=>simp only[a0g];split <;> first|exact .plain rfl rfl rfl|(split <;> exact .plain rfl rfl rfl)
 |expand r =>
  simp only[a0g]
  split
  ·exact .plain rfl rfl rfl
  ·rename_i c
   have hf:Rd.a6s r:=hl;have:=((Rd.a5K hf).2 (by omega)).2.2.1;exact⟨by simp[Rep.num],by simp[Rep.num],by show (Rd.a0E r).length<=60;omega,by simp[Rep.num]⟩
 |tick n =>
  simp only[a0g]
  split
  ·exact .plain rfl rfl rfl
  ·have h1:=d8u s.ts (s.es.length+1) s.es s.now (s.now+n);have h2:=c6C h;exact⟨by simp[Rep.num],by simp[Rep.num],by simp[Rep.num],by show (a1K s.ts (s.es.length+1) s.es s.now (s.now+n)).2.1.length<=60;omega⟩
 |clock=>exact .plain rfl rfl rfl
theorem e6u(h:Inv s){l:a7U}(hl:a1O l):f5z s (a1q s l).2/\(a1q s l).2.granted.length<=100000:=by
 have h1:=e7j h hl;have h2:=c3u h.mid l;unfold a1q
 split
 ·exact⟨h1,by omega⟩
 ·refine⟨⟨h1.en,h1.es,h1.da,h1.ed⟩,?_⟩;have h3:=b8x (a0g s l).1.ts (a0g s l).1.es;have h4:=a1x (b7f h hl);simp only[List.length_append];omega
end Desk
end Go.Proofs.YtfigmlfdnickmaaGreatDoor
