import Derived.Test.YtfigmlfdnickmaaGreatDoorL21
set_option maxRecDepth 100000
set_option maxHeartbeats 8000000
variable{s x:ByteArray}{fr m mi mn pc ti un:Int}{xs ys:List (Go.Proofs.YtfigmlfdnickmaaGreatDoor.Desk.Ent × Nat × Nat)}{acc:List Int}{F:List Nat}{pat:List Go.Value}{B Q cap d g k n:Nat}{st:Nat × Bool}{o:Go.Obj}{a b c l v:Go.Value}{W X Z Z' Z3 w w' w0 w9 wr:Go.World}
namespace Go.Proofs.YtfigmlfdnickmaaGreatDoor
open Go.RowKit
variable {w:World}{B:Nat}{v0 v1 r1 r2 r3:Value}{K:List Nat}{X1 X2 X3:List KL}
theorem f8Y:(Tryz.prog.info? tI).map (fun i=>(i.zero,i.size,i.bytes))=some (some (.agg #[.slice none 0 0,.slice none 0 0,.slice none 0 0,.slice none 0 0,.int .i64 0]),5,104):=by kernel_rfl
theorem d1o{b0 e z:Nat}{xs:List Value}(h:W.ownsRow b0 e z v n xs)(hk:k<xs.length):∃ g cap u,v=.slice (some ⟨g,0,none⟩) n cap/\W.cell? ⟨g,k,none⟩=some u/\∀ o,W.frozen? ⟨g,o,none⟩=false:=by
 rcases h.2 with ⟨rfl,rfl⟩|⟨g,cap,cur,rfl,_,hh,_⟩
 ·have:=h.1;rw[Nat.zero_mul] at this;omega
 ·exact⟨g,cap,xs[k],rfl,(f6U g k) ▸ h.cells (g:=g) rfl k xs[k] (List.getElem?_eq_getElem hk),fun o=>by simp[World.frozen?,hh]⟩
theorem g4s{xs:List Value}(hk:k<xs.length):(rp (e5O m) k++xs.drop k).set k (.int .i64 m)=rp (e5O m) (k+1)++xs.drop (k+1):=by
 have hl:(rp (e5O m) k).length=k:=by rw[d4O];simp
 rw[List.set_append,if_neg (by omega),hl,Nat.sub_self,List.drop_eq_getElem_cons hk,e6y,List.append_assoc];rfl
def e5M(w:World)(B:Nat)(v0 v1:Value)(K:List Nat)(r1 r2 r3:Value)(l:Value)(n:Nat)(w':World):Prop :=
 ∃ K' r1' r2' r3' Y1 Y2 Y3,BK w' B v0 v1 K' r1' r2' r3' Y1 Y2 Y3/\Y1.length+Y2.length+Y3.length=n+1/\Off (l.ownBlock.toList++bkB B r1 r2 r3) w w'/\(∀ b∈K',b∈K\/l.ownBlock=some b\/w.heap.size<=b)/\(∀ b∈bkB B r1' r2' r3',b∈bkB B r1 r2 r3\/w.heap.size<=b)
structure KS(pat:List Value)(e:TypeId)(w0 Z:World)(l:Value)(n Q:Nat)(o:Obj):Prop where
 own:Z.ownsRow 0 e pat.length l n (rp pat n)
 hq:Z.heap[Q]?=some o
 lo:w0.heap.size<=Q
 off:Off l.ownBlock.toList w0 Z
 lt:∀ b,l.ownBlock=some b->b<w0.heap.size
theorem KS.put{e:TypeId}{cs:Array Value}{t:TypeId}(h:KS pat e w0 Z l n Q (.cells cs t))(k:Off l.ownBlock.toList Z Z')(ho:Z'.ownsRow 0 e pat.length l n (rp pat n))(i:Nat)(v:Value):KS pat e w0 (Z'.setCell ⟨Q,i,none⟩ v) l n Q (.cells (cs.setIfInBounds i v) t):=by
 have hQ:Q ∉ l.ownBlock.toList:=fun e=>by have:=h.lt Q (by simpa using e);have:=h.lo;omega
 have kd:Off [Q] Z' (Z'.setCell ⟨Q,i,none⟩ v):=Off.set0 ..;refine⟨a1i ho kd (fun b hb e=>hQ (by simp at e;subst e;simpa using hb)),d1X ((k.block Q (Array.getElem?_eq_some_iff.1 h.hq).1 hQ).trans h.hq) v,h.lo,(h.off.trans k).setCell (.inr h.lo) _ _,h.lt⟩
theorem d0h{cs:Array Value}{t:TypeId}(h:Z.heap[Q]?=some (.cells cs t))(i:Nat)(hv:cs[i]?=some v):Z.cell? ⟨Q,i,none⟩=some v:=by simp[World.cell?,h,hv]
theorem KS.at_{e:TypeId}{cs:Array Value}{t:TypeId}(h:KS pat e w0 Z l n Q (.cells cs t))(k:Off l.ownBlock.toList Z Z'):Z'.heap[Q]?=some (.cells cs t)/\∀ o,Z'.frozen? ⟨Q,o,none⟩=false:=by
 have hQ:Q ∉ l.ownBlock.toList:=fun e=>by have:=h.lt Q (by simpa using e);have:=h.lo;omega
 have e:=(k.block Q (Array.getElem?_eq_some_iff.1 h.hq).1 hQ).trans h.hq;exact⟨e,fun o=>by simp[World.frozen?,e]⟩
structure KF(pat:List Value)(e:TypeId)(w0 Z:World)(l:Value)(n Q:Nat)(o:Obj)(us:List (Value × Nat)):Prop where
 ks:KS pat e w0 Z l n Q o
 fs:∀ p∈us,Fu pat Z p.1 p.2/\∀ b,p.1.ownBlock=some b->b≠Q/\b<Z.heap.size/\(l.ownBlock=some b\/w0.heap.size<=b)
theorem KF.put{e:TypeId}{m:Nat}{cs:Array Value}{t:TypeId}{us:List (Value × Nat)}(h:KF pat e w0 Z l n Q (.cells cs t) us)(o6:Z'.ownsRow 0 e pat.length (.slice (some ⟨g,0,none⟩) (n+m) cap) (n+m) (rp pat (n+m)))(ol6:Z'.ownsRow 0 e pat.length l n (rp pat n))(f6:∀ u j,j<=n+m->Fu pat Z u j->Fu pat Z' u j)(k6:Off l.ownBlock.toList Z Z')(at6:l.ownBlock=some g\/Z.heap.size<=g)(hj:∀ p∈us,p.2<=n+m)(i:Nat):
  KF pat e w0 (Z'.setCell ⟨Q,i,none⟩ (.slice (some ⟨g,0,none⟩) (n+m) cap)) l n Q (.cells (cs.setIfInBounds i (.slice (some ⟨g,0,none⟩) (n+m) cap)) t) ((.slice (some ⟨g,0,none⟩) (n+m) cap,n+m) :: us):=by
 have kd:Off [Q] Z' (Z'.setCell ⟨Q,i,none⟩ (.slice (some ⟨g,0,none⟩) (n+m) cap)):=Off.set0 ..;have hQ:Q<Z.heap.size:=(Array.getElem?_eq_some_iff.1 h.ks.hq).1;have hz:=h.ks.off.size
 have hg:g≠Q/\g<Z'.heap.size/\(l.ownBlock=some g\/w0.heap.size<=g):=by
  refine⟨?_,c7O o6 (by simp[Value.ownBlock]),at6.imp id fun e=>by omega⟩;rcases at6 with e|e
  ·have:=h.ks.lt g e;have:=h.ks.lo;omega
  ·omega
 refine⟨h.ks.put k6 ol6 i _,fun p hp=>?_⟩;rcases List.mem_cons.1 hp with rfl|hp
 ·refine⟨(Fu.of_own o6).off kd (fun b hb e=>?_),fun b hb=>?_⟩
  ·simp[Value.ownBlock] at hb e;exact hg.1 (hb.trans e)
  ·simp[Value.ownBlock] at hb;subst hb;exact⟨hg.1,Nat.lt_of_lt_of_le hg.2.1 kd.size,hg.2.2⟩
 ·obtain⟨p1,p2⟩:=h.fs p hp;exact⟨(f6 _ _ (hj p hp) p1).off kd (fun b hb e=>(p2 b hb).1 (by simpa using e)),fun b hb=>⟨(p2 b hb).1,Nat.lt_of_lt_of_le (zL (p2 b hb).2.1 k6.size) kd.size,(p2 b hb).2.2⟩⟩
theorem BK.lt(h:BK w B v0 v1 K r1 r2 r3 X1 X2 X3):∀ b∈bkB B r1 r2 r3,b<w.heap.size:=fun b hb=>by
 simp only[bkB,List.mem_cons,List.mem_append,Option.mem_toList] at hb;rcases hb with rfl|hb|hb|hb
 ·exact (Array.getElem?_eq_some_iff.1 h.hb).1
 ·exact c7O h.br.b1.own hb
 ·exact c7O h.br.b2.own hb
 ·exact c7O h.br.b3.own hb
theorem KF.blocks{e:TypeId}(hT:KF pat e wr Z3 l n Q o [(c,n+3),(b,n+2),(a,n+1),(l,n)]):∀ q∈klB (l,a,b,c,m),q<Z3.heap.size/\(l.ownBlock=some q\/wr.heap.size<=q):=fun q hq=>by
 simp only[klB,List.mem_append,Option.mem_toList] at hq;rcases hq with hq|hq|hq|hq
 ·exact ((hT.fs (l,n) (by simp)).2 q hq).2
 ·exact ((hT.fs (a,n+1) (by simp)).2 q hq).2
 ·exact ((hT.fs (b,n+2) (by simp)).2 q hq).2
 ·exact ((hT.fs (c,n+3) (by simp)).2 q hq).2
theorem KF.k4{P:Int->List Value}{e:TypeId}(hT:KF (P m) e wr Z3 l n Q o [(c,n+3),(b,n+2),(a,n+1),(l,n)])(hn:n<=900000):K4 P Z3 (l,a,b,c,m) :=
 ⟨n,hn,(hT.fs (l,n) (by simp)).1,(hT.fs (a,n+1) (by simp)).1,(hT.fs (b,n+2) (by simp)).1,(hT.fs (c,n+3) (by simp)).1⟩
theorem BK.kept{r1' r2' r3':Value}{e:TypeId}{Y1 Y2 Y3:List KL}(hT:KF pat e wr Z3 l n Q o [(c,n+3),(b,n+2),(a,n+1),(l,n)])(R3:Off l.ownBlock.toList w Z3)(hw:w.heap.size<=wr.heap.size)(hl:Y1.length+Y2.length+Y3.length=X1.length+X2.length+X3.length+1)
  (hr:∀ q∈bkB B r1' r2' r3',q∈bkB B r1 r2 r3\/Z3.heap.size<=q) (hk:BK w9 B v0 v1 (klB (l,a,b,c,m)++K) r1' r2' r3' Y1 Y2 Y3/\Off (bkB B r1 r2 r3) Z3 w9):e5M w B v0 v1 K r1 r2 r3 l (X1.length+X2.length+X3.length) w9:=by
 refine⟨_,r1',r2',r3',Y1,Y2,Y3,hk.1,hl,(R3.mono fun y hy=>List.mem_append_left _ hy).trans (hk.2.mono fun y hy=>List.mem_append_right _ hy),fun q hq=>?_,fun q hq=>(hr q hq).imp id fun e=>by have:=R3.size;omega⟩;rcases List.mem_append.1 hq with hq|hq
 ·rcases (hT.blocks q hq).2 with e|e
  ·exact .inr (.inl e)
  ·exact .inr (.inr (by omega))
 ·exact .inl hq
theorem BK.apart{e:TypeId}(h:BK w B v0 v1 K r1 r2 r3 X1 X2 X3)(hT:KF pat e wr Z3 l n Q o [(c,n+3),(b,n+2),(a,n+1),(l,n)])(hw:w.heap.size<=wr.heap.size)(hlK:∀ b,l.ownBlock=some b->b ∉ K/\b ∉ bkB B r1 r2 r3):∀ q∈klB (l,a,b,c,m),q<Z3.heap.size/\q ∉ bkB B r1 r2 r3:=fun q hq=>by
 refine⟨(hT.blocks q hq).1,fun e=>?_⟩;rcases (hT.blocks q hq).2 with e1|e1
 ·exact (hlK q e1).2 e
 ·have:=h.lt q e;omega
theorem BK.kept1{r':Value}{e:TypeId}(h:BK w B v0 v1 K r1 r2 r3 X1 X2 X3)(h3:BK Z3 B v0 v1 K r1 r2 r3 X1 X2 X3)(hT:KF (e5O m) e wr Z3 l n Q o [(c,n+3),(b,n+2),(a,n+1),(l,n)])(hn:n<=900000)(R3:Off l.ownBlock.toList w Z3)(hw:w.heap.size<=wr.heap.size)(hlK:∀ b,l.ownBlock=some b->b ∉ K/\b ∉ bkB B r1 r2 r3)
  (k9:Off r1.ownBlock.toList Z3 w9) (o9:w9.ownsRow 0 tI 5 r' (X1.length+1) (X1.flatMap klV++klV (l,a,b,c,m))) (hat:g2M Z3 r1 r'):e5M w B v0 v1 K r1 r2 r3 l (X1.length+X2.length+X3.length) (w9.setCell ⟨B,2,none⟩ r') :=
 BK.kept hT R3 hw (by simp;omega) (fun q hq=>by
  simp only[bkB,List.mem_cons,List.mem_append,Option.mem_toList] at hq ⊢;rcases hq with rfl|hq|hq|hq
  ·exact .inl (.inl rfl)
  ·exact (hat q hq).imp (fun e=>.inr (.inl e)) id
  ·exact .inl (.inr (.inr (.inl hq)))
  ·exact .inl (.inr (.inr (.inr hq)))) (h3.add1 (hT.k4 (P:=e5O) hn) (h.apart hT hw hlK) k9 o9 hat)
theorem e4A(h:BK w B v0 v1 K r1 r2 r3 X1 X2 X3)(h1:X1.length<=1000000000)(h2:X2.length<=1000000000)(h3:X3.length<=1000000000){xs:List Value}(hl:w.ownsRow 0 3 1 l n xs)(hn:n<=900000)(hlK:∀ b,l.ownBlock=some b->b ∉ K/\b ∉ bkB B r1 r2 r3):
  Calls Tryz.prog 123 #[.pointer (some ⟨B,2,none⟩),l] w fun e w'=>e=.returned (.tuple #[])/\e5M w B v0 v1 K r1 r2 r3 l (X1.length+X2.length+X3.length) w':=by
 obtain⟨i0,hi0,hz0,hz1,hz2⟩:=info_parts b1S;obtain⟨j0,hj0,jz0,jz1,jz2⟩:=info_parts f8Y;obtain⟨a,cp,rfl⟩:=c9y hl;have HB:=a0b h;have HL:=a0b hl;have HK:=a0b hlK;have HLT:=a0b (fun b (hb:(Value.slice a n cp).ownBlock=some b)=>c7O hl hb);have hxl:xs.length=n:=by have:=hl.1;omega
 clear h hl hlK
 go_enter Tryz.func123,Tryz.ntmps123
 go_upto_region 2 with (first|(go_at_call 184;refine (e1W HB.out h1 h2 h3).mono ?_;rintro e w1 ⟨rfl,hb⟩;have H1:=a0b hb;clear hb))
 generalize hmm:f8N X1 X2 X3=m;have HL1:=a0b (a1g HL.out H1.out)
 go_loopw [5] (fun v wr=>∃ k:Nat,k<=n/\v=.int .i64 k/\wr.ownsRow 0 3 1 (.slice a n cp) n (rp (e5O m) k++xs.drop k)/\Off (Value.slice a n cp).ownBlock.toList w1 wr) (fun v _=>n-(intOf v).toNat)
 case atStart=>exact⟨0,Nat.zero_le _,rfl,by simpa[e6x] using HL1.out,Off.refl _ _⟩
 case round =>
  obtain⟨k,hk,rfl,hown,hof⟩:=hrel;have HO:=a0b (zA hown hof)
  by_cases hlt:k<n
  ·have hlt':(k:Int)<(n:Int):=by omega
   obtain⟨g,cap,u,e,c0,fz⟩:=d1o hown (k:=k) (by rw[List.length_append,d4O,List.length_drop];simp;omega);simp only[Value.slice.injEq,true_and] at e;obtain⟨rfl,rfl⟩:=e;have f0:=fz k;clear hown hof
   go_wp2_with fail
   go_roundw
   case rel =>
    refine⟨k+1,by omega,by go_num,?_,HO.out.2.setCell (.inl (by simp[Value.ownBlock])) _ _⟩;have:=d1L HO.out.1 (b:=g) rfl k (.int .i64 m);rw[g4s (by omega)] at this;exact this
   case measure=>simp[intOf];omega
  ·have hlt':¬ (k:Int)<(n:Int):=by omega
   have hkn:k=n:=by omega
   subst hkn
   have HR:Hid (wr.ownsRow 0 3 1 (.slice a k cp) k (rp (e5O m) k)):=by
    have:=HO.out.1;rw[List.drop_eq_nil_of_le (by omega),List.append_nil] at this;exact this
   clear hown hof
   go_upto_region 6 with fail
   change Code.wp _ _ _ _ (wr.alloc (.cells #[.slice a k cp,.slice none 0 0,.slice none 0 0,.slice none 0 0,.int .i64 m] tI))
   have S0:Hid (KS (e5O m) 3 wr (wr.alloc (.cells #[.slice a k cp,.slice none 0 0,.slice none 0 0,.slice none 0 0,.int .i64 m] tI)) (.slice a k cp) k wr.heap.size (.cells #[.slice a k cp,.slice none 0 0,.slice none 0 0,.slice none 0 0,.int .i64 m] tI)) :=
    ⟨HR.out.alloc _,a0p _ _,Nat.le_refl _,(Off.refl _ _).alloc _,fun b hb=>c7O HR.out hb⟩
   have T0:Hid (KF (e5O m) 3 wr (wr.alloc (.cells #[.slice a k cp,.slice none 0 0,.slice none 0 0,.slice none 0 0,.int .i64 m] tI)) (.slice a k cp) k wr.heap.size (.cells #[.slice a k cp,.slice none 0 0,.slice none 0 0,.slice none 0 0,.int .i64 m] tI) [(.slice a k cp,k)]) :=
    ⟨S0.out,fun p hp=>by
     rw[List.mem_singleton.1 hp]
     exact⟨Fu.of_own S0.out.own,fun b hb=>⟨by have:=S0.out.lt b hb;omega,c7O S0.out.own hb,.inl hb⟩⟩⟩
   clear S0;generalize wr.alloc (.cells #[.slice a k cp,.slice none 0 0,.slice none 0 0,.slice none 0 0,.int .i64 m] tI)=Z0 at T0 ⊢
   go_upto_region 7 with (first|(at_builtin;go_loud (refine d6c rfl _ _ 38 rfl (e5O m) 8 Tryz.underlying38 hi0 hz0 hz1 hz2 (by decide) rfl (by simp) (by simp[Value.oneCell']) T0.out.ks.own (m:=1) (cs:=#[.int .i64 m]) (by simp[rp]) (by decide) (by decide) rfl rfl (by omega) (zN _) ?_);intro g6 c6 w6 o6 ol6 f6 k6 at6;have q6:=d0h (T0.out.ks.at_ k6).1 1 rfl;have z6:=(T0.out.ks.at_ k6).2 1))
   have T1:=a0b (T0.out.put o6 ol6 f6 k6 at6 (by simp) 1);generalize w6.setCell ⟨wr.heap.size,1,none⟩ (.slice (some ⟨g6,0,none⟩) (k+1) c6)=Z1 at T1 ⊢;clear o6 ol6 f6 k6 at6 q6 z6 T0
   go_upto_region 8 with (first|(at_builtin;go_loud (refine d6c rfl _ _ 38 rfl (e5O m) 8 Tryz.underlying38 hi0 hz0 hz1 hz2 (by decide) rfl (by simp) (by simp[Value.oneCell']) T1.out.ks.own (m:=2) (cs:=#[.int .i64 m,.int .i64 m]) (by simp[rp]) (by decide) (by decide) rfl rfl (by omega) (zN _) ?_);intro g7 c7 w7 o7 ol7 f7 k7 at7;have q7:=d0h (T1.out.ks.at_ k7).1 2 rfl;have z7:=(T1.out.ks.at_ k7).2 2))
   have T2:=a0b (T1.out.put o7 ol7 f7 k7 at7 (by simp) 2);generalize w7.setCell ⟨wr.heap.size,2,none⟩ (.slice (some ⟨g7,0,none⟩) (k+2) c7)=Z2 at T2 ⊢;clear o7 ol7 f7 k7 at7 q7 z7 T1
   go_upto_region 9 with (first|(at_builtin;go_loud (refine d6c rfl _ _ 38 rfl (e5O m) 8 Tryz.underlying38 hi0 hz0 hz1 hz2 (by decide) rfl (by simp) (by simp[Value.oneCell']) T2.out.ks.own (m:=3) (cs:=#[.int .i64 m,.int .i64 m,.int .i64 m]) (by simp[rp]) (by decide) (by decide) rfl rfl (by omega) (zN _) ?_);intro g8 c8 w8 o8 ol8 f8 k8 at8;have q8:=d0h (T2.out.ks.at_ k8).1 3 rfl;have z8:=(T2.out.ks.at_ k8).2 3))
   have T3:=a0b (T2.out.put o8 ol8 f8 k8 at8 (by simp) 3);generalize w8.setCell ⟨wr.heap.size,3,none⟩ (.slice (some ⟨g8,0,none⟩) (k+3) c8)=Z3 at T3 ⊢;clear o8 ol8 f8 k8 at8 q8 z8 T2;have R3:Off (Value.slice a k cp).ownBlock.toList w Z3:=(Off.of_below H1.out).trans (HO.out.2.trans T3.out.ks.off);have HLK:=a0b (fun b (hb:b∈(Value.slice a k cp).ownBlock.toList)=>HK.out b (by simpa using hb));have B3:=a0b (HB.out.off R3 (fun b hb e=>(HLK.out b e).2 hb) (fun b hb e=>(HLK.out b e).1 hb));have HR3:=a0b R3;obtain⟨_,_,d2,_,_,fzB⟩:=B3.out.cells;obtain⟨⟨ra,rc,er⟩,_,_⟩:=B3.out.forms;subst er;have fB:=fzB 2;have s0:=d0h T3.out.ks.hq 0 rfl;have s1:=d0h T3.out.ks.hq 1 rfl;have s2:=d0h T3.out.ks.hq 2 rfl;have s3:=d0h T3.out.ks.hq 3 rfl;have s4:=d0h T3.out.ks.hq 4 rfl;have d2A:∀ o,(Z3.alloc o).cell? ⟨B,2,none⟩=some (.slice ra X1.length rc):=fun o=>a0a ((zr _ Z3).alloc (zq _) o) d2
   have DD:=a0b (fun o=>a1g B3.out.br.b1.own (((zr _ Z3).alloc (zq _) o).drew));have hBr:(Value.slice ra X1.length rc).ownBlock≠some B:=c8L B3.out.br.b1.own B3.out.hb (by decide);clear R3 fzB
   go_region_law (first
    |(refine step_append_lies _ rfl _ _ 80 rfl 0 tI j0 _ 5 104 Tryz.underlying80 hj0 jz0 jz1 jz2 rfl (by decide) (.slice ra X1.length rc) X1.length (X1.flatMap klV) rfl (DD.out _) ⟨Z3.heap.size,0,none⟩ 1 1 (klV (.slice a k cp,.slice (some ⟨g6,0,none⟩) (k+1) c6,.slice (some ⟨g7,0,none⟩) (k+2) c7,.slice (some ⟨g8,0,none⟩) (k+3) c8,m)) rfl rfl (World.news_of_block (cs:=(klV (.slice a k cp,.slice (some ⟨g6,0,none⟩) (k+1) c6,.slice (some ⟨g7,0,none⟩) (k+2) c7,.slice (some ⟨g8,0,none⟩) (k+3) c8,m)).toArray) (a0p Z3 _)) (by simp[klV,Value.oneCell']) (by omega) (by unfold maxLen;omega) (by omega) (zN _) (Z3.heap.size+1) (by simp) ?_;intro g9 c9 w9 o9 hgrow at9 hlt9;have k9:Off ((Value.slice ra X1.length rc).ownBlock.toList) Z3 w9:=Off.grown (((Off.refl _ Z3).alloc _).drew) hgrow (fun k hk=>.inl (by simp[hk]));have d9:=k9.cell (fun e=>hBr (by simpa using e)) d2;have f9:=(k9.frozen (fun e=>hBr (by simpa using e)) (World.block_lt_of_cell? _ _ d2)).trans fB))
   all_goals
    go_wp2_with fail
    (try simp only[Exit.inBlock,Exit.then]);refine bodyPost_end (results_none rfl _ _ _) rfl ?_
    refine⟨rfl,HB.out.kept1 B3.out T3.out hn HR3.out (Nat.le_trans H1.out.size HO.out.2.size) HK.out k9 o9 (fun b hb=>by
     simp[Value.ownBlock] at hb;subst hb
     exact at9.imp id (fun e=>by omega))⟩
def f9F(n:Int):ByteArray:=if n=1 then ⟨#[100,97,105,108,121]⟩ else if n=2 then ⟨#[119,101,101,107,108,121]⟩ else ⟨#[109,111,110,116,104,108,121]⟩
def ruL(r:Rd.a0Y):Array Value:=#[.string (f9F r.pc),.int .i64 r.ev,.bool (isd r.acc 0),.bool (isd r.acc 1),.bool (isd r.acc 2),.bool (isd r.acc 3),.bool (isd r.acc 4),.bool (isd r.acc 5),.bool (isd r.acc 6),.int .i64 r.fr,.int .i64 r.mn,.int .i64 r.mi,.int .i64 r.ti,.int .i64 r.un]
def ruR(r:Rd.a0Y):Value:=.agg (ruL r)
theorem h6n(x n:Int):(x.tmod n==0)=decide (x % n=0):=by
 rw[Bool.eq_iff_iff,beq_iff_eq,decide_eq_true_eq,<- Int.dvd_iff_tmod_eq_zero,Int.dvd_iff_emod_eq_zero]
def ruB(r:Rd.a0Y):Obj:=.cells (ruL r) 273
theorem ruC{r:Rd.a0Y}(h:W.heap[Q]?=some (ruB r)):(W.cell? ⟨Q,0,none⟩=some (.string (f9F r.pc))/\W.cell? ⟨Q,1,none⟩=some (.int .i64 r.ev)/\W.cell? ⟨Q,9,none⟩=some (.int .i64 r.fr)/\W.cell? ⟨Q,10,none⟩=some (.int .i64 r.mn)/\W.cell? ⟨Q,11,none⟩=some (.int .i64 r.mi)/\W.cell? ⟨Q,12,none⟩=some (.int .i64 r.ti)/\W.cell? ⟨Q,13,none⟩=some (.int .i64 r.un))/\∀ j,j<7->W.cell? ⟨Q,2+j,none⟩=some (.bool (isd r.acc j)):=by
 refine⟨⟨d0h h 0 rfl,d0h h 1 rfl,d0h h 9 rfl,d0h h 10 rfl,d0h h 11 rfl,d0h h 12 rfl,d0h h 13 rfl⟩,fun j hj=>?_⟩;rcases (show j=0\/j=1\/j=2\/j=3\/j=4\/j=5\/j=6 by omega) with rfl|rfl|rfl|rfl|rfl|rfl|rfl
 all_goals exact d0h h _ rfl
theorem h1G(r:Rd.a0Y)(hf:Rd.a6s r)(d:Int)(h0:r.fr<=d)(h1:d<728)(w:World):
  Calls Tryz.prog 239 #[ruR r,.int .i64 d] w fun e w'=>e=.returned (.bool (Rd.has r d))/\Below w.heap.size w w':=by
 have f0:=hf.f0;have e1:=hf.e1;have e2:=hf.e2;have f1:=hf.f1;have hz:(r.ev==0)=false:=by rw[beq_eq_false_iff_ne];omega
 have BX:=a0b (zA ((zr _ w).alloc (zq _) (ruB r)) (a0p w (ruB r)));have hpc:r.pc=1\/r.pc=2\/r.pc=3:=by have:=hf.pc1;have:=hf.pc3;omega
 have tmb:∀ x:Int,0<=x->0<=x % r.ev/\x % r.ev<100:=fun x _=>⟨Int.emod_nonneg _ (by omega),Int.lt_of_lt_of_le (Int.emod_lt_of_pos _ (by omega)) (by omega)⟩
 rcases hpc with hp|hp|hp
 ·have e:Rd.has r d=((d-r.fr) % r.ev==0):=by unfold Rd.has;rw[if_pos hp];rfl
  have w1:IntKind.i64.wrap (d-r.fr)=d-r.fr:=a0i (by omega) (by omega);have tb:=tmb (d-r.fr) (by omega);have w2:IntKind.i64.wrap ((d-r.fr) % r.ev)=(d-r.fr) % r.ev:=a0i (by omega) (by omega);rw[e];have HP:Hid (f9F r.pc=⟨#[100,97,105,108,121]⟩):=by rw[Hid,hp];rfl
  clear hp;simp only[ruR,ruL]
  go_enter Tryz.func239,Tryz.ntmps239
  go_upto_region 1 with fail
  change Code.wp _ _ _ _ (w.alloc (ruB r));obtain⟨⟨c0,c1,c9,_⟩,_⟩:=ruC BX.out.2;rw[HP.out] at c0;generalize w.alloc (ruB r)=W at *;clear tb e tmb
  go_wp2_with fail
  go_ret;exact⟨rfl,BX.out.1⟩
 ·obtain⟨j,hj⟩:∃ j:Nat,d % 7=j:=⟨(d % 7).toNat,by omega⟩;have hj7:j<7:=by omega
  obtain⟨bj,hbj⟩:∃ b,isd r.acc j=b:=⟨_,rfl⟩;have e:Rd.has r d=(bj && ((d / 7-r.fr / 7) % r.ev==0)):=by unfold Rd.has;rw[if_neg (by omega),if_pos hp,hj,hbj];rfl
  have q1:d.tmod 7=j:=by rw[Int.tmod_eq_emod_of_nonneg (by omega)];exact hj
  have q2:d.tdiv 7=d / 7:=Int.tdiv_eq_ediv_of_nonneg (by omega);have q3:r.fr.tdiv 7=r.fr / 7:=Int.tdiv_eq_ediv_of_nonneg f0;have w0:IntKind.i64.wrap (j:Int)=j:=a0i (by omega) (by omega);have w1:IntKind.i64.wrap (d / 7)=d / 7:=a0i (by omega) (by omega);have w2:IntKind.i64.wrap (r.fr / 7)=r.fr / 7:=a0i (by omega) (by omega);have w3:IntKind.i64.wrap (d / 7-r.fr / 7)=d / 7-r.fr / 7:=a0i (by omega) (by omega);have tb:=tmb (d / 7-r.fr / 7) (by omega);have w4:IntKind.i64.wrap ((d / 7-r.fr / 7) % r.ev)=(d / 7-r.fr / 7) % r.ev:=a0i (by omega) (by omega);have hi0:¬ (j:Int)<0:=by omega
  have hi7:(j:Int)<7:=by omega
  have HP:Hid (f9F r.pc=⟨#[119,101,101,107,108,121]⟩):=by rw[Hid,hp];rfl
  clear hp tb tmb hj;simp only[ruR,ruL]
  cases bj
  all_goals
   simp only[Bool.false_and,Bool.true_and] at e;rw[e]
   go_enter Tryz.func239,Tryz.ntmps239
   go_upto_region 1 with fail
   change Code.wp _ _ _ _ (w.alloc (ruB r));obtain⟨⟨c0,c1,c9,_⟩,cJ⟩:=ruC BX.out.2;rw[HP.out] at c0;have cj:=cJ j hj7;clear cJ;rw[hbj] at cj;generalize w.alloc (ruB r)=W at *;clear e hbj
   go_wp2_with fail
   go_ret;exact⟨rfl,BX.out.1⟩
 ·obtain⟨_,_,y1,y2⟩:=Rd.a6c (x:=d) (by omega) h1;obtain⟨_,_,z1,z2⟩:=Rd.a6c f0 f1
  have e:Rd.has r d=((Cal.dT r.fr==Cal.dT d) && ((12*Cal.yT d+Cal.mT d-12*Cal.yT r.fr-Cal.mT r.fr).tmod r.ev==0)):=by
   rw[h6n];unfold Rd.has;rw[if_neg (by omega),if_neg (by omega)]
   congr 1
   rw[Bool.eq_iff_iff,decide_eq_true_eq,beq_iff_eq];exact eq_comm
  have D1:=a0b (fun W=>f1n r.fr W (by omega) (by omega));have D2:=a0b (fun W=>f1n d W (by omega) (by omega));rw[e];clear e;obtain⟨m1,m2⟩:1<=Cal.mT d/\Cal.mT d<=12:=by have:=(Cal.c6G d (by omega) (by omega)).1;exact⟨((Cal.a2K _ _ _).1 this).2.2.1,((Cal.a2K _ _ _).1 this).2.2.2.1⟩
  obtain⟨m3,m4⟩:1<=Cal.mT r.fr/\Cal.mT r.fr<=12:=by have:=(Cal.c6G r.fr (by omega) (by omega)).1;exact⟨((Cal.a2K _ _ _).1 this).2.2.1,((Cal.a2K _ _ _).1 this).2.2.2.1⟩
  generalize Cal.yT d=yd at *;generalize Cal.mT d=md at *;generalize Cal.dT d=dd at *;generalize Cal.yT r.fr=yf at *;generalize Cal.mT r.fr=mf at *;generalize Cal.dT r.fr=df at *;have w1:IntKind.i64.wrap (12*yd)=12*yd:=a0i (by omega) (by omega);have w2:IntKind.i64.wrap (12*yd+md)=12*yd+md:=a0i (by omega) (by omega);have w3:IntKind.i64.wrap (12*yf)=12*yf:=a0i (by omega) (by omega);have w4:IntKind.i64.wrap (12*yd+md-12*yf)=12*yd+md-12*yf:=a0i (by omega) (by omega);have w5:IntKind.i64.wrap (12*yd+md-12*yf-mf)=12*yd+md-12*yf-mf:=a0i (by omega) (by omega)
  have w6:IntKind.i64.wrap ((12*yd+md-12*yf-mf).tmod r.ev)=(12*yd+md-12*yf-mf).tmod r.ev:=by
   have h1:=Int.tmod_lt_of_pos (12*yd+md-12*yf-mf) (show 0<r.ev by omega);have h2:=Int.lt_tmod_of_pos (12*yd+md-12*yf-mf) (show 0<r.ev by omega);exact a0i (by omega) (by omega)
  generalize hx:12*yd+md-12*yf-mf=x at *;have HP:Hid (f9F r.pc=⟨#[109,111,110,116,104,108,121]⟩):=by rw[Hid,hp];rfl
  clear hp;simp only[ruR,ruL]
  cases hd:df==dd
  all_goals
   simp only[Bool.false_and,Bool.true_and]
   go_enter Tryz.func239,Tryz.ntmps239
   go_upto_region 1 with fail
   change Code.wp _ _ _ _ (w.alloc (ruB r));obtain⟨⟨c0,c1,c9,_⟩,_⟩:=ruC BX.out.2;rw[HP.out] at c0;generalize w.alloc (ruB r)=W at *
   go_upto_region 7 with (first|(go_at_call 73;refine (D1.out _).mono ?_;rintro e w1 ⟨rfl,rfl⟩))
   go_upto_region 8 with (first|(go_at_call 73;refine (D2.out _).mono ?_;rintro e w1 ⟨rfl,rfl⟩))
   go_wp2_with fail
   go_ret;exact⟨rfl,BX.out.1⟩
def ruW(ws:Nat->ByteArray)(i k:Nat)(pc:Int)(acc:List Int)(tm:Bool):Rd.a0Y:=⟨pc,b4g (ws (i+1)) 1 7,acc,g2R (ws (k+1)),c5N (ws (k+3)),b4g (ws (k+5)) 1 7,if tm then b4g (ws (k+7)) 1 7 else 0,if tm then 0 else g2R (ws (k+7))⟩
structure h4y(ws:Nat->ByteArray)(i k:Nat)(pc:Int)(acc:List Int)(tm:Bool):Prop where
 hp:ws i=f9F pc
 h3:pc=1\/pc=2\/pc=3
 hk:(pc=2/\k=i+2+1/\Txt.onB (ws (i+2))=true/\Txt.onW (ws (i+2))=some acc)\/(pc≠2/\k=i+2/\acc=[])
 ht:((ws (k+6)).toList==[116,105,109,101,115])=tm
inductive e2P (ws:List ByteArray):List ByteArray->Desk.a7U->Prop where
 |a0k:e2P ws [a3F,c8r,c8Z] (.a0k (ws.getD 1 ByteArray.empty) (b4g (ws.getD 2 ByteArray.empty) 1 7))
 |book:e2P ws [a9P,c8r,c8Z,c7X,c7X] (.enter 1 (ws.getD 1 ByteArray.empty) (b4g (ws.getD 2 ByteArray.empty) 1 7) (g2T (ws.getD 3 ByteArray.empty)) (g2T (ws.getD 4 ByteArray.empty)) 0)
 |hold:e2P ws [b5f,c8r,c8Z,c7X,c7X,c8M] (.enter 2 (ws.getD 1 ByteArray.empty) (b4g (ws.getD 2 ByteArray.empty) 1 7) (g2T (ws.getD 3 ByteArray.empty)) (g2T (ws.getD 4 ByteArray.empty)) (b4g (ws.getD 5 ByteArray.empty) 1 7))
 |wait:e2P ws [b4k,c8r,c8Z,c7X,c7X,c8M] (.enter 3 (ws.getD 1 ByteArray.empty) (b4g (ws.getD 2 ByteArray.empty) 1 7) (g2T (ws.getD 3 ByteArray.empty)) (g2T (ws.getD 4 ByteArray.empty)) (b4g (ws.getD 5 ByteArray.empty) 1 7))
 |confirm:e2P ws [a4z,idY] (.confirm (b4g (ws.getD 1 ByteArray.empty) 1 7))
 |cancel:e2P ws [a6m,idY] (.cancel (b4g (ws.getD 1 ByteArray.empty) 1 7))
 |list0:e2P ws [a5Q,c8r] (.list (ws.getD 1 ByteArray.empty) 0 1048320)
 |list1:e2P ws [a5Q,c8r,c7X,c7X] (.list (ws.getD 1 ByteArray.empty) (g2T (ws.getD 2 ByteArray.empty)) (g2T (ws.getD 3 ByteArray.empty)))
 |peak:e2P ws [a9a,c8r,c7X,c7X] (.peak (ws.getD 1 ByteArray.empty) (g2T (ws.getD 2 ByteArray.empty)) (g2T (ws.getD 3 ByteArray.empty)))
 |find:e2P ws [b5h,c8r,c8Z,c8M,c7X,c7X] (.find (ws.getD 1 ByteArray.empty) (b4g (ws.getD 2 ByteArray.empty) 1 7) (b4g (ws.getD 3 ByteArray.empty) 1 7) (g2T (ws.getD 4 ByteArray.empty)) (g2T (ws.getD 5 ByteArray.empty)))
 |tick:e2P ws [b4n,c8M] (.tick (b4g (ws.getD 1 ByteArray.empty) 1 7))
 |waiting:e2P ws [a5q] .waiting
 |clock:e2P ws [b1c] .clock
 |series {K E:List ByteArray}{k:Nat}{pc:Int}{acc:List Int}{tm:Bool}(hr:h4y (ws.getD · ByteArray.empty) 3 k pc acc tm) (hn:k+7<(g4M++K++g4X++E).length):e2P ws (g4M++K++g4X++E) (.series (ws.getD 1 ByteArray.empty) (b4g (ws.getD 2 ByteArray.empty) 1 7) (ruW (ws.getD · ByteArray.empty) 3 k pc acc tm))
 |expand {K E:List ByteArray}{k:Nat}{pc:Int}{acc:List Int}{tm:Bool}(hr:h4y (ws.getD · ByteArray.empty) 1 k pc acc tm) (hn:k+7<(g4Z++K++g4X++E).length):e2P ws (g4Z++K++g4X++E) (.expand (ruW (ws.getD · ByteArray.empty) 1 k pc acc tm))
def g0a(s:ByteArray)(v:Value)(st:Nat × Bool):Prop:=f2K s st/\(st.2=false->a1b (Txt.a1v s).length st.1 st.2=false->∃ q l,Full s q/\e2P (Txt.a1v s) q l/\LV v l/\Desk.a1O l)
theorem d6S(h:a0n x=true):g2T x=a1J x:=by unfold g2T a1J;rw[if_pos h,if_pos h]
theorem g4i(h:unB x=true):b4g x 1 7=nvF x:=f4T (d9V h).1
theorem g4W(h:miB x=true):b4g x 1 7=nvF x:=f4T (d9V h).1
theorem d4u{k:ByteArray}{q:List ByteArray}(h:isB (Txt.a1v s) 0 false k=true)(hf:e1B.filter (e7c k)=[q])(hst:a0M (Txt.a1v s) (q.map g2B) (0,false)=st):f2K s st/\(st.2=false->a1b (Txt.a1v s).length st.1 st.2=false->Full s q) :=
 ⟨e6O h hf (f3r hst),e7e h hf (f3r hst) hst⟩
theorem f1s{q0:ByteArray}{R:List ByteArray}(hF:Full s (q0 :: c8r :: R)):((Txt.a1v s).getD 1 ByteArray.empty).size<=1000:=by
 have h:=e9L [] hF.all;rw[d9O] at h;exact a4o h
theorem f3k(h:isB (Txt.a1v s) 0 false a3F=true):g0a s (.iface 149 (.agg #[.string (a2F (Txt.a1v s) (1,false)),.int .i64 (a0v (Txt.a1v s) (a0M (Txt.a1v s) [nmB] (1,false)) unB nvF)])) (a0M (Txt.a1v s) [nmB,unB] (1,false)):=by
 have hk:d1Z a3F=true:=by decide +kernel
 have K:=d4u (q:=[a3F,c8r,c8Z]) h (by decide +kernel) (by rw[<- st1 h hk]);simp only[List.map,d9O,f5O] at K;refine⟨K.1,fun h2 hm=>⟨_,_,K.2 h2 hm,.a0k,?_⟩⟩;have hF:=K.2 h2 hm;have v1:=f0D (Q:=[c8r]) (s:=c8Z) (R:=[]) h hk hF.all nvF;have f1:=e9L [c8r] (s:=c8Z) (R:=[]) hF.all;simp only[List.map,List.length,d9O,f5O] at v1 f1;rw[f1t hF.all,v1,g4i f1];exact⟨.a0k _ (f1s hF) _,b7G f1⟩
theorem f9J(h:isB (Txt.a1v s) 0 false a9P=true):g0a s (.iface 154 (.agg #[.string (a2F (Txt.a1v s) (1,false)),.int .i64 (a0v (Txt.a1v s) (a0M (Txt.a1v s) [nmB] (1,false)) unB nvF),.int .i64 (a0v (Txt.a1v s) (a0M (Txt.a1v s) [nmB,unB] (1,false)) a0n a1J),.int .i64 (a0v (Txt.a1v s) (a0M (Txt.a1v s) [nmB,unB,a0n] (1,false)) a0n a1J)])) (a0M (Txt.a1v s) [nmB,unB,a0n,a0n] (1,false)):=by
 have hk:d1Z a9P=true:=by decide +kernel
 have K:=d4u (q:=[a9P,c8r,c8Z,c7X,c7X]) h (by decide +kernel) (by rw[<- st1 h hk]);simp only[List.map,d9O,f5O,f2N] at K;refine⟨K.1,fun h2 hm=>⟨_,_,K.2 h2 hm,.book,?_⟩⟩;have hF:=K.2 h2 hm;have v1:=f0D (Q:=[c8r]) (s:=c8Z) (R:=[c7X,c7X]) h hk hF.all nvF;have f1:=e9L [c8r] (s:=c8Z) (R:=[c7X,c7X]) hF.all;simp only[List.map,List.length,d9O,f5O] at v1 f1;have v2:=f0D (Q:=[c8r,c8Z]) (s:=c7X) (R:=[c7X]) h hk hF.all a1J;have f2:=e9L [c8r,c8Z] (s:=c7X) (R:=[c7X]) hF.all;simp only[List.map,List.length,d9O,f5O,f2N] at v2 f2;have v3:=f0D (Q:=[c8r,c8Z,c7X]) (s:=c7X) (R:=[]) h hk hF.all a1J;have f3:=e9L [c8r,c8Z,c7X] (s:=c7X) (R:=[]) hF.all;simp only[List.map,List.length,d9O,f5O,f2N] at v3 f3;rw[f1t hF.all,v1,v2,v3,g4i f1,d6S f2,d6S f3];exact⟨.book _ (f1s hF) _ _ _,⟨.inl ⟨rfl,rfl⟩,(b7G f1).1,(b7G f1).2,(a2Y f2).1,(a2Y f2).2,(a2Y f3).1,(a2Y f3).2⟩⟩
theorem f2y(h:isB (Txt.a1v s) 0 false a6m=true):g0a s (.iface 168 (.agg #[.int .i64 (a0v (Txt.a1v s) (1,false) idB nvF)])) (a0M (Txt.a1v s) [idB] (1,false)):=by
 have hk:d1Z a6m=true:=by decide +kernel
 have K:=d4u (q:=[a6m,idY]) h (by decide +kernel) (by rw[<- st1 h hk]);simp only[List.map,g4J] at K;refine⟨K.1,fun h2 hm=>⟨_,_,K.2 h2 hm,.cancel,?_⟩⟩;have hF:=K.2 h2 hm;have v0:=f0D (Q:=[]) (s:=idY) (R:=[]) h hk hF.all nvF;have f0:=e9L [] (s:=idY) (R:=[]) hF.all;simp only[List.map,List.length,a6y,g4J] at v0 f0;rw[v0,f4T f0];exact⟨.cancel _,c6p _⟩
theorem f8w(h:isB (Txt.a1v s) 0 false a9a=true):g0a s (.iface 176 (.agg #[.string (a2F (Txt.a1v s) (1,false)),.int .i64 (a0v (Txt.a1v s) (a0M (Txt.a1v s) [nmB] (1,false)) a0n a1J),.int .i64 (a0v (Txt.a1v s) (a0M (Txt.a1v s) [nmB,a0n] (1,false)) a0n a1J)])) (a0M (Txt.a1v s) [nmB,a0n,a0n] (1,false)):=by
 have hk:d1Z a9a=true:=by decide +kernel
 have K:=d4u (q:=[a9a,c8r,c7X,c7X]) h (by decide +kernel) (by rw[<- st1 h hk]);simp only[List.map,d9O,f2N] at K;refine⟨K.1,fun h2 hm=>⟨_,_,K.2 h2 hm,.peak,?_⟩⟩;have hF:=K.2 h2 hm;have v1:=f0D (Q:=[c8r]) (s:=c7X) (R:=[c7X]) h hk hF.all a1J;have f1:=e9L [c8r] (s:=c7X) (R:=[c7X]) hF.all;simp only[List.map,List.length,d9O,f2N] at v1 f1;have v2:=f0D (Q:=[c8r,c7X]) (s:=c7X) (R:=[]) h hk hF.all a1J;have f2:=e9L [c8r,c7X] (s:=c7X) (R:=[]) hF.all;simp only[List.map,List.length,d9O,f2N] at v2 f2;rw[f1t hF.all,v1,v2,d6S f1,d6S f2];exact⟨.peak _ (f1s hF) _ _,⟨(a2Y f1).1,(a2Y f1).2,(a2Y f2).1,(a2Y f2).2⟩⟩
theorem f9g(h:isB (Txt.a1v s) 0 false b5h=true):g0a s (.iface 178 (.agg #[.string (a2F (Txt.a1v s) (1,false)),.int .i64 (a0v (Txt.a1v s) (a0M (Txt.a1v s) [nmB] (1,false)) unB nvF),.int .i64 (a0v (Txt.a1v s) (a0M (Txt.a1v s) [nmB,unB] (1,false)) miB nvF),.int .i64 (a0v (Txt.a1v s) (a0M (Txt.a1v s) [nmB,unB,miB] (1,false)) a0n a1J),.int .i64 (a0v (Txt.a1v s) (a0M (Txt.a1v s) [nmB,unB,miB,a0n] (1,false)) a0n a1J)])) (a0M (Txt.a1v s) [nmB,unB,miB,a0n,a0n] (1,false)):=by
 have hk:d1Z b5h=true:=by decide +kernel
 have K:=d4u (q:=[b5h,c8r,c8Z,c8M,c7X,c7X]) h (by decide +kernel) (by rw[<- st1 h hk]);simp only[List.map,d9O,f5O,f9f,f2N] at K;refine⟨K.1,fun h2 hm=>⟨_,_,K.2 h2 hm,.find,?_⟩⟩;have hF:=K.2 h2 hm;have v1:=f0D (Q:=[c8r]) (s:=c8Z) (R:=[c8M,c7X,c7X]) h hk hF.all nvF;have f1:=e9L [c8r] (s:=c8Z) (R:=[c8M,c7X,c7X]) hF.all;simp only[List.map,List.length,d9O,f5O] at v1 f1;have v2:=f0D (Q:=[c8r,c8Z]) (s:=c8M) (R:=[c7X,c7X]) h hk hF.all nvF;have f2:=e9L [c8r,c8Z] (s:=c8M) (R:=[c7X,c7X]) hF.all;simp only[List.map,List.length,d9O,f5O,f9f] at v2 f2;have v3:=f0D (Q:=[c8r,c8Z,c8M]) (s:=c7X) (R:=[c7X]) h hk hF.all a1J;have f3:=e9L [c8r,c8Z,c8M] (s:=c7X) (R:=[c7X]) hF.all;simp only[List.map,List.length,d9O,f5O,f9f,f2N] at v3 f3;have v4:=f0D (Q:=[c8r,c8Z,c8M,c7X]) (s:=c7X) (R:=[]) h hk hF.all a1J;have f4:=e9L [c8r,c8Z,c8M,c7X] (s:=c7X) (R:=[]) hF.all;simp only[List.map,List.length,d9O,f5O,f9f,f2N] at v4 f4;rw[f1t hF.all,v1,v2,v3,v4,g4i f1,g4W f2,d6S f3,d6S f4];exact⟨.find _ (f1s hF) _ _ _ _,⟨(b7G f1).1,(b7G f1).2,(c0p f2).1,(c0p f2).2,(a2Y f3).1,(a2Y f3).2,(a2Y f4).1,(a2Y f4).2⟩⟩
theorem f6s(h:isB (Txt.a1v s) 0 false b1c=true):g0a s (.iface 183 (.agg #[])) (1,false):=by
 have hk:d1Z b1c=true:=by decide +kernel
 have K:=d4u (q:=[b1c]) h (by decide +kernel) (by rw[<- st1 h hk]);refine⟨K.1,fun h2 hm=>⟨_,_,K.2 h2 hm,.clock,?_⟩⟩;exact⟨.clock,trivial⟩
theorem f5m(h:isB (Txt.a1v s) 0 false a5Q=true)(hl:a1b (Txt.a1v s).length (a0M (Txt.a1v s) [nmB] (1,false)).1 (a0M (Txt.a1v s) [nmB] (1,false)).2=false):g0a s (.iface 170 (.agg #[.string (a2F (Txt.a1v s) (1,false)),.bool false,.int .i64 0,.int .i64 0])) (a0M (Txt.a1v s) [nmB] (1,false)):=by
 have hk:d1Z a5Q=true:=by decide +kernel
 have hf:e1B.filter (e7c a5Q)=[[a5Q,c8r],[a5Q,c8r,c7X,c7X]]:=by decide +kernel
 have hst:a0M (Txt.a1v s) ([a5Q,c8r].map g2B) (0,false)=a0M (Txt.a1v s) [nmB] (1,false):=by rw[<- st1 h hk];simp only[List.map,d9O]
 have hS:=f3t hst hl;have hq:=hst;have K:f2K s _/\(_->_->Full s _):=⟨e6O h hf hS,e7e h hf hS hq⟩;refine⟨K.1,fun h2 hm=>⟨_,_,K.2 h2 hm,.list0,?_⟩⟩;have hF:=K.2 h2 hm;rw[f1t hF.all];exact⟨.list _ (f1s hF) false 0 0 0 1048320 rfl rfl,⟨by omega,by omega,by omega,by omega⟩⟩
theorem f5l(h:isB (Txt.a1v s) 0 false a5Q=true)(hl:a1b (Txt.a1v s).length (a0M (Txt.a1v s) [nmB] (1,false)).1 (a0M (Txt.a1v s) [nmB] (1,false)).2=true):g0a s (.iface 170 (.agg #[.string (a2F (Txt.a1v s) (1,false)),.bool true,.int .i64 (a0v (Txt.a1v s) (a0M (Txt.a1v s) [nmB] (1,false)) a0n a1J),.int .i64 (a0v (Txt.a1v s) (a0M (Txt.a1v s) [nmB,a0n] (1,false)) a0n a1J)])) (a0M (Txt.a1v s) [nmB,a0n,a0n] (1,false)):=by
 have hk:d1Z a5Q=true:=by decide +kernel
 have hf:e1B.filter (e7c a5Q)=[[a5Q,c8r],[a5Q,c8r,c7X,c7X]]:=by decide +kernel
 have hst:a0M (Txt.a1v s) ([a5Q,c8r].map g2B) (0,false)=a0M (Txt.a1v s) [nmB] (1,false):=by rw[<- st1 h hk];simp only[List.map,d9O]
 have hq:a0M (Txt.a1v s) ([a5Q,c8r,c7X,c7X].map g2B) (0,false)=a0M (Txt.a1v s) [nmB,a0n,a0n] (1,false):=by rw[<- st1 h hk];simp only[List.map,d9O,f2N]
 have hS:=f3s hst hl hq;have K:f2K s _/\(_->_->Full s _):=⟨e6O h hf hS,e7e h hf hS hq⟩;refine⟨K.1,fun h2 hm=>⟨_,_,K.2 h2 hm,.list1,?_⟩⟩;have hF:=K.2 h2 hm;have v1:=f0D (Q:=[c8r]) (s:=c7X) (R:=[c7X]) h hk hF.all a1J;have f1:=e9L [c8r] (s:=c7X) (R:=[c7X]) hF.all;simp only[List.map,List.length,d9O,f2N] at v1 f1;have v2:=f0D (Q:=[c8r,c7X]) (s:=c7X) (R:=[]) h hk hF.all a1J;have f2:=e9L [c8r,c7X] (s:=c7X) (R:=[]) hF.all;simp only[List.map,List.length,d9O,f2N] at v2 f2;rw[f1t hF.all,v1,v2,d6S f1,d6S f2];exact⟨.list _ (f1s hF) true _ _ _ _ rfl rfl,⟨(a2Y f1).1,(a2Y f1).2,(a2Y f2).1,(a2Y f2).2⟩⟩
theorem h1j(h:evB x=true):b4g x 1 7=nvF x:=f4T (d9V h).1
theorem h6h(h:Txt.a2y x=true):g2R x=b0a x:=by
 unfold b0a g2R;rw[if_pos h];simp only[Txt.a2y,decide_eq_true_eq] at h;rw[if_pos ⟨h.1,h.2.1,by omega⟩]
theorem ruG{H ws K E:List ByteArray}{ev:Int}(h:h5X H ws pc ev acc fr mn mi ti un K E):∃ k tm,h4y (ws.getD · ByteArray.empty) H.length k pc acc tm/\ruW (ws.getD · ByteArray.empty) H.length k pc acc tm=⟨pc,ev,acc,fr,mn,mi,ti,un⟩/\k+7<(H++K++g4X++E).length:=by
 obtain⟨hp,⟨k0,k1,k2,k3,k4,k5,rfl,rfl,rfl⟩,he⟩:=h
 have key:∀ {k:Nat}{tm:Bool},k=H.length+K.length->pc=1\/pc=2\/pc=3->ws.getD H.length ByteArray.empty=f9F pc->b4g (ws.getD (H.length+1) ByteArray.empty) 1 7=ev->((pc=2/\k=H.length+2+1/\Txt.onB (ws.getD (H.length+2) ByteArray.empty)=true/\Txt.onW (ws.getD (H.length+2) ByteArray.empty)=some acc)\/(pc≠2/\k=H.length+2/\acc=[]))->E.length=2->((ws.getD (k+6) ByteArray.empty).toList==[116,105,109,101,115])=tm->(if tm then b4g (ws.getD (k+7) ByteArray.empty) 1 7 else 0)=ti->(if tm then 0 else g2R (ws.getD (k+7) ByteArray.empty))=un->_:=fun {k tm} hk h3 h0 h1 h2 h4 h5 h6 h7=>(⟨k,tm,⟨h0,h3,h2,h5⟩,by
  subst hk h6 h7 h1
  simp only[ruW,h6h k1,g4W k5,c5N,k3,if_true],by subst hk;simp[g4X,h4];omega⟩:∃ k tm,h4y (ws.getD · ByteArray.empty) H.length k pc acc tm/\ruW (ws.getD · ByteArray.empty) H.length k pc acc tm=⟨pc,ev,acc,b0a (ws.getD (H.length+K.length+1) ByteArray.empty),Txt.a6J (ws.getD (H.length+K.length+3) ByteArray.empty),nvF (ws.getD (H.length+K.length+5) ByteArray.empty),ti,un⟩/\k+7<(H++K++g4X++E).length)
 cases hp with
 |daily p0 p1=>cases he with
  |times q0 q1=>exact key (tm:=true) rfl (by omega) (p0.trans (by decide +kernel)) (h1j p1) (.inr ⟨by omega,rfl,rfl⟩) rfl (by rw[q0];decide +kernel) (h1j q1) rfl
  |til q0 q1=>exact key (tm:=false) rfl (by omega) (p0.trans (by decide +kernel)) (h1j p1) (.inr ⟨by omega,rfl,rfl⟩) rfl (by rw[q0];decide +kernel) rfl (h6h q1)
 |weekly acc p0 p1 p2=>cases he with
  |times q0 q1=>exact key (tm:=true) rfl (by omega) (p0.trans (by decide +kernel)) (h1j p1) (.inl ⟨rfl,rfl,by rw[Txt.onB,p2];rfl,p2⟩) rfl (by rw[q0];decide +kernel) (h1j q1) rfl
  |til q0 q1=>exact key (tm:=false) rfl (by omega) (p0.trans (by decide +kernel)) (h1j p1) (.inl ⟨rfl,rfl,by rw[Txt.onB,p2];rfl,p2⟩) rfl (by rw[q0];decide +kernel) rfl (h6h q1)
 |monthly p0 p1=>cases he with
  |times q0 q1=>exact key (tm:=true) rfl (by omega) (p0.trans (by decide +kernel)) (h1j p1) (.inr ⟨by omega,rfl,rfl⟩) rfl (by rw[q0];decide +kernel) (h1j q1) rfl
  |til q0 q1=>exact key (tm:=false) rfl (by omega) (p0.trans (by decide +kernel)) (h1j p1) (.inr ⟨by omega,rfl,rfl⟩) rfl (by rw[q0];decide +kernel) rfl (h6h q1)
theorem g5p(h:isB (Txt.a1v s) 0 false a7l=true){ev:Int}(hr:b0m (Txt.a1v s) (a0M (Txt.a1v s) [nmB,unB] (1,false)) pc ev acc fr mn mi ti un st):g0a s (.iface 165 (.agg #[.string (a2F (Txt.a1v s) (1,false)),.int .i64 (a0v (Txt.a1v s) (a0M (Txt.a1v s) [nmB] (1,false)) unB nvF),.int .i64 pc,.int .i64 ev,.bool (isd acc 0),.bool (isd acc 1),.bool (isd acc 2),.bool (isd acc 3),.bool (isd acc 4),.bool (isd acc 5),.bool (isd acc 6),.int .i64 fr,.int .i64 mn,.int .i64 mi,.int .i64 ti,.int .i64 un])) st:=by
 refine⟨f9a h hr,fun h2 hm=>?_⟩;have hk:d1Z a7l=true:=by decide +kernel
 have hf:e1B.filter (e7c a7l)=g4E g4M:=by decide +kernel
 have hst:a0M (Txt.a1v s) (g4M.map g2B) (0,false)=(a0M (Txt.a1v s) [nmB,unB] (1,false)):=by
  unfold g4M;rw[<- st1 h hk];simp only[List.map,d9O,f5O]
 have FI:=(b2O hr h2).2;rw[<- hst] at hr;obtain⟨q,hS,hg⟩:=e2s hr;obtain⟨K,E,rfl,hq,hG⟩:=hg h2;have hF:=e7e h hf hS hq h2 hm;have e1:g4M++K++g4X++E=a7l :: ([c8r]++c8Z :: (K++g4X++E)):=by simp[g4M]
 have hF':=hF;rw[e1] at hF';have v1:=f0D (Q:=[c8r]) (s:=c8Z) (R:=K++g4X++E) h hk hF'.all nvF;have f1:=e9L (ws:=Txt.a1v s) [c8r] (k:=a7l) (s:=c8Z) (R:=K++g4X++E) hF'.all;simp only[List.map,List.length,d9O,f5O] at v1 f1;obtain⟨k,tm,r1,r2,r3⟩:=ruG hG;refine⟨_,_,hF,.series r1 r3,?_⟩;rw[f1t (R:=c8Z :: (K++g4X++E)) hF'.all,v1,g4i f1];have r2':ruW (fun j=>(Txt.a1v s).getD j ByteArray.empty) 3 k pc acc tm=_:=r2;rw[r2'];exact⟨.series _ (f1s hF') _ ⟨pc,ev,acc,fr,mn,mi,ti,un⟩,(b7G f1).1,(b7G f1).2,FI⟩
theorem g6j(h:isB (Txt.a1v s) 0 false a7M=true){ev:Int}(hr:b0m (Txt.a1v s) (1,false) pc ev acc fr mn mi ti un st):g0a s (.iface 180 (.agg #[.int .i64 pc,.int .i64 ev,.bool (isd acc 0),.bool (isd acc 1),.bool (isd acc 2),.bool (isd acc 3),.bool (isd acc 4),.bool (isd acc 5),.bool (isd acc 6),.int .i64 fr,.int .i64 mn,.int .i64 mi,.int .i64 ti,.int .i64 un])) st:=by
 refine⟨g0B h hr,fun h2 hm=>?_⟩;have hk:d1Z a7M=true:=by decide +kernel
 have hf:e1B.filter (e7c a7M)=g4E g4Z:=by decide +kernel
 have hst:a0M (Txt.a1v s) (g4Z.map g2B) (0,false)=(1,false):=by
  unfold g4Z;rw[<- st1 h hk];rfl
 have FI:=(b2O hr h2).2;rw[<- hst] at hr;obtain⟨q,hS,hg⟩:=e2s hr;obtain⟨K,E,rfl,hq,hG⟩:=hg h2;have hF:=e7e h hf hS hq h2 hm;obtain⟨k,tm,r1,r2,r3⟩:=ruG hG;refine⟨_,_,hF,.expand r1 r3,?_⟩;have r2':ruW (fun j=>(Txt.a1v s).getD j ByteArray.empty) 1 k pc acc tm=_:=r2;rw[r2'];exact⟨.expand ⟨pc,ev,acc,fr,mn,mi,ti,un⟩,FI⟩
theorem g2x(ws:List ByteArray)(st:Nat × Bool):∃ pc ev acc fr mn mi ti un s,b0m ws st pc ev acc fr mn mi ti un s:=by
 have hp:∃ pc ev acc s,b0n ws st pc ev acc s:=by
  cases h1:isB ws st.1 st.2 b0Y
  ·cases h2:isB ws st.1 st.2 a8D
   ·cases h3:isB ws st.1 st.2 a8w
    ·exact⟨_,_,_,_,.none h1 h2 h3⟩
    ·exact⟨_,_,_,_,.monthly h1 h2 h3⟩
   ·refine⟨_,_,(Txt.onW (ws.getD (a0M ws [evB] (nxt st)).1 ByteArray.empty)).getD [],_,.weekly h1 h2 _ fun h=>?_⟩;have ho:=(d7C h).2.2;rw[Txt.onB,Option.isSome_iff_exists] at ho;obtain⟨a,ha⟩:=ho;rw[ha];rfl
  ·exact⟨_,_,_,_,.daily h1⟩
 obtain⟨pc,ev,acc,s,hp⟩:=hp
 have he:∃ ti un s',c3M ws (c4Y ws s) ti un s':=by
  cases h1:isB ws (c4Y ws s).1 (c4Y ws s).2 b2z
  ·cases h2:isB ws (c4Y ws s).1 (c4Y ws s).2 b5O
   ·exact⟨_,_,_,.none h1 h2⟩
   ·exact⟨_,_,_,.til h1 h2⟩
  ·exact⟨_,_,_,.times h1⟩
 obtain⟨ti,un,s',he⟩:=he;exact⟨_,_,_,_,_,_,_,_,_,.mk pc ev acc s ti un s' hp he⟩
open Desk (Ent St Rep a0g)
theorem g3I{ops:Array Oper}{rest:List Oper}{o:Oper}{a:Act}{Q:Exit->Act->World->Prop}(hgd:o.guard=none)(x y:Operand)(ho:o.op=.call { callee:=.builtin .append,args:=#[x,y],argTypes:=#[34,34] }){l:List (Ent × Nat × Nat)}(hown:W.ownsRow B 58 6 v l.length (l.flatMap c7a))(z:Ent × Nat × Nat){ty:TypeId}{mk:Nat × Nat}(hs:a.eval x=v)(hx:a.eval y=.slice (some ⟨W.heap.size,0,none⟩) 1 1)(hl:l.length<=1000000)(hB:B<=W.heap.size)
  (h:∀ g cap w',w'.ownsRow B 58 6 (.slice (some ⟨g,0,none⟩) (l.length+1) cap) (l.length+1) ((l++[z]).flatMap c7a)->Off v.ownBlock.toList W w'->(v.ownBlock=some g\/W.heap.size<=g)->wpList Tryz.prog ops Q rest (a.put o.dst (.slice (some ⟨g,0,none⟩) (l.length+1) cap)) w'):
  wpList Tryz.prog ops Q (o :: rest) a (W.alloc (.cells #[.int .i64 z.1.id,.int .i64 z.1.kind,.string z.1.a0k,.int .i64 z.1.a0c,.slice (some ⟨z.2.1,0,none⟩) z.1.a0e.length z.2.2,.int .i64 z.1.a0Z] ty mk)):=by
 obtain⟨i0,hi0,hz0,hz1,hz2⟩:=info_parts e2i;refine wpList_append_lies _ hgd x y 34 ho B 58 i0 _ 6 72 Tryz.underlying34 hi0 hz0 hz1 hz2 rfl (by decide) v l.length (l.flatMap c7a) hs (hown.alloc _) ⟨W.heap.size,0,none⟩ 1 1 (c7a z) hx rfl (World.news_of_block (cs:=(c7a z).toArray) (a0p W _)) (by simp[c7a,Value.oneCell']) (by omega) (by unfold maxLen;omega) (by omega) (by simp;omega) (W.heap.size+1) (by simp) ?_;intro g cap w' h1 h2 h3 _;have e2:(l++[z]).flatMap c7a=l.flatMap c7a++c7a z:=by simp
 have:=h g cap w';rw[e2] at this;exact this h1 (((Off.refl _ W).alloc _).grown h2 (fun k hk=>.inl (by simp[hk]))) (h3.imp id (fun e=>by omega))
theorem d9z.snoc{y:Ent × Nat × Nat}(h:d9z w X v ys)(hy:RSL X y.2.1 y.1.a0e/\w.heap.size<=y.2.1/\y.2.1<X.heap.size/\v.ownBlock≠some y.2.1)(ho:w'.ownsRow w.heap.size 58 6 (.slice (some ⟨g,0,none⟩) (ys.length+1) cap) (ys.length+1) ((ys++[y]).flatMap c7a))(k:Off v.ownBlock.toList X w')(hat:v.ownBlock=some g\/X.heap.size<=g):d9z w w' (.slice (some ⟨g,0,none⟩) (ys.length+1) cap) (ys++[y]):=by
 refine⟨by rw[List.length_append];exact ho,fun z hz=>?_,⟨k.os.trans h.bw.os,k.tape.trans h.bw.tape,k.output.trans h.bw.output,Nat.le_trans h.bw.size k.size,fun b hb=>(k.block b (zL hb h.bw.size) (fun e=>?_)).trans (h.bw.block b hb)⟩⟩
 ·have hz':RSL X z.2.1 z.1.a0e/\w.heap.size<=z.2.1/\z.2.1<X.heap.size/\v.ownBlock≠some z.2.1:=by
   rcases List.mem_append.1 hz with hz|hz
   ·exact h.sl z hz
   ·have:z=y:=by simpa using hz
    subst this;exact hy
  obtain⟨z1,z2,z3,z4⟩:=hz';refine⟨z1.off k (by simpa using fun e=>z4 e),z2,Nat.lt_of_lt_of_le z3 k.size,?_⟩;simp only[Value.ownBlock,ne_eq,Option.some.injEq];rintro rfl;rcases hat with e|e
  ·exact z4 e
  ·omega
 ·have:=d0G h.own (k:=b) (by simpa using e);omega
def e2K(w:World)(v:Value)(es:List Ent)(w':World):Prop :=
 ∃ (l:List (Ent × Value)) (G:List Nat),l.map (·.1)=es/\(∀ w2,(∀ b∈G,w2.heap[b]?=w'.heap[b]?)->EV w2 v l)/\(∀ b∈G,w.heap.size<=b/\b<w'.heap.size)/\Below w.heap.size w w'
def g0T(y:Ent × Nat × Nat):Ent × Value:=(y.1,.slice (some ⟨y.2.1,0,none⟩) y.1.a0e.length y.2.2)
theorem RSL.sv{L:List (Int × Int)}(h:RSL w B L):SV w (.slice (some ⟨B,0,none⟩) L.length cap) L:=⟨⟨_,_,rfl⟩,fun k hk=>⟨B,cap,rfl,h k hk⟩⟩
theorem g0R{a:Option Addr}{zs:List (Ent × Nat × Nat)}(ha:zs≠[]->a=some ⟨g,0,none⟩)(hr:∀ (i:Nat)(hi:i<zs.length),RE w' g i zs[i].1 zs[i].2.1 zs[i].2.2)(hg:zs≠[]->w.heap.size<=g/\g<w'.heap.size)(hb:∀ z∈zs,w.heap.size<=z.2.1/\z.2.1<w'.heap.size)(k:Below w.heap.size w w'):e2K w (.slice a zs.length cap) (zs.map (·.1)) w':=by
 refine⟨zs.map g0T,(if zs=[] then [] else [g])++zs.map (·.2.1),by simp[g0T,Function.comp_def],fun w2 hG=>?_,fun b hb2=>?_,k⟩
 ·have hc:∀ b o u,b∈(if zs=[] then [] else [g])++zs.map (·.2.1)->w'.cell? ⟨b,o,none⟩=some u->w2.cell? ⟨b,o,none⟩=some u:=fun b o u hb2 hu=>(zo (hG b hb2)).trans hu
  refine⟨⟨a,cap,by simp⟩,fun i hi=>?_,fun p hp=>?_⟩
  ·have hi':i<zs.length:=by simpa using hi
   have hne:zs≠[]:=by rintro rfl;simp at hi'
   have q:=hr i hi'
   have hgm:g∈(if zs=[] then [] else [g])++zs.map (·.2.1):=by simp[hne]
   refine⟨g,cap,by rw[ha hne];simp,?_⟩;simp only[List.getElem_map,g0T];exact⟨hc _ _ _ hgm q.c0,hc _ _ _ hgm q.c1,hc _ _ _ hgm q.c2,hc _ _ _ hgm q.c3,hc _ _ _ hgm q.c4,hc _ _ _ hgm q.c5⟩
  ·obtain⟨z,hz,rfl⟩:=List.mem_map.1 hp;obtain⟨i,hi,rfl⟩:=List.getElem_of_mem hz;refine RSL.sv (fun j hj=>?_);have q:=(hr i hi).sl j hj;have hm:zs[i].2.1∈(if zs=[] then [] else [g])++zs.map (·.2.1):=List.mem_append_right _ (List.mem_map.2 ⟨_,hz,rfl⟩);exact⟨hc _ _ _ hm q.1,hc _ _ _ hm q.2⟩
 ·rcases List.mem_append.1 hb2 with e|e
  ·by_cases hz:zs=[]
   ·simp[hz] at e
   ·simp[hz] at e;subst e;exact hg hz
  ·obtain⟨z,hz,rfl⟩:=List.mem_map.1 e;exact hb z hz
theorem d1S.up{q:St × Rep}{e:Ending}(h:d1S X d F ys q e Z)(kX:Below w.heap.size w X)(hQ:w.heap.size<=Q)(hQX:Q<X.heap.size)(hF:∀ k∈F,k<w.heap.size)(hY:∀ y∈ys,y.2.1<w.heap.size)(h7:Q7 X Q):
  ∃ (a1 a2 a3 a4:Option Addr) (n1 n2 n3 n4 c1 c2 c3 c4:Nat),e=.returned (a0s q.2.err 0 q.2.n (.slice a1 n1 c1) (.slice a2 n2 c2) (.slice a3 n3 c3) (.slice a4 n4 c4))/\Q7 Z Q/\d1S w d F ys q e (a2w Z Q (.int .i64 q.2.err) (.int .i64 0) (.int .i64 q.2.n) (.slice a1 n1 c1) (.slice a2 n2 c2) (.slice a3 n3 c3) (.slice a4 n4 c4)):=by
 obtain⟨v1,v2,v3,v4,xs,F',G,he,hT,h3,hD,hF',hO,hG,h3F,hS⟩:=h;have T:=hT Z (fun _ _=>rfl);obtain⟨l,hl,_⟩:=T.en;obtain⟨a1,c1,e1⟩:=hl.form;obtain⟨a2,c2,e2⟩:=T.da.form;obtain⟨a3,c3,e3⟩:=c9y h3;obtain⟨a4,c4,e4⟩:=T.ed.form;subst e1 e2 e3 e4;have hQF:Q ∉ F:=fun e=>by have:=hF Q e;omega
 have hsz:=kX.size;refine⟨a1,a2,a3,a4,_,_,_,_,c1,c2,c3,c4,he,h7.later (hO.block Q hQX hQF),?_⟩;have k7:=a2R Z Q (.int .i64 q.2.err) (.int .i64 0) (.int .i64 q.2.n) (.slice a1 l.length c1) (.slice a2 q.2.days.length c2) (.slice a3 q.2.granted.length c3) (.slice a4 q.2.ended.length c4);have hx:∀ x,X.heap.size<=x->x ∉ [Q]:=fun x hx e=>by simp at e;omega
 have hF2:∀ x∈F',x ∉ [Q]:=fun x hx'=>by
  rcases hF' x hx' with e|e
  ·intro e2;simp at e2;exact hQF (e2 ▸ e)
  ·exact hx x e
 have hd:=hD.rd;refine⟨_,_,_,_,xs,F',G,he,fun w2 h2=>hT w2 (fun b hb=>(h2 b hb).trans (k7.block b (hG b hb).2.1 (hx b (hG b hb).1))),d7F (a1i h3 k7 (fun b hb=>hx b (d0G h3 hb))) hsz,hD.off k7 hF2 (fun x hx' e=>?_),fun k hk=>(hF' k hk).imp id (fun e=>by omega),((Off.of_below kX).trans hO).trans' k7 (fun x hx'=>.inr (by simp at hx';omega)),fun b hb=>?_,h3F,fun x hx'=>(hS x hx').imp id (fun e=>by omega)⟩
 ·have e2:x.2.1=Q:=by simpa using e
  rcases hS x hx' with ⟨y,hy,e3⟩|e3
  ·have:=hY y hy;omega
  ·omega
 ·obtain⟨g1,g2,g3,g4⟩:=hG b hb;exact⟨by omega,Nat.lt_of_lt_of_le g2 k7.size,g3,g4⟩
def e2E:List (ByteArray × Nat):=[(⟨#[116,104,105,110,103]⟩,172),(⟨#[98,111,111,107]⟩,173),(⟨#[104,111,108,100]⟩,173),(⟨#[119,97,105,116]⟩,173),(⟨#[115,101,114,105,101,115]⟩,174),(⟨#[99,111,110,102,105,114,109]⟩,175),(⟨#[99,97,110,99,101,108]⟩,175),(⟨#[108,105,115,116]⟩,177),(⟨#[112,101,97,107]⟩,177),(⟨#[102,105,110,100]⟩,178)]
theorem d0J{s:St}(h:DD w d s xs F){f:Nat}{kw:ByteArray}{c:Nat}{q:St × Rep}(hn:0<n)(h0:w.cell? ⟨g,0,none⟩=some (.string kw))(hf:(kw,f)∈e2E)(C:∀ X,Below w.heap.size w X->Calls Tryz.prog f #[.pointer (some ⟨d,0,none⟩),.slice (some ⟨g,0,none⟩) n c] X (d1S X d F xs q)):
  Calls Tryz.prog 117 #[.pointer (some ⟨d,0,none⟩),.slice (some ⟨g,0,none⟩) n c] w (d1S w d F xs q):=by
 have P0:=a0b ((KP.nil w).alloc a0f);have HL:=a0b (zA h.lt (fun y hy=>(h.rd.sp y hy).2.2));have i0:(0:Int)<(n:Int):=by omega
 have y0:=a0a P0.out.bl h0;have hQ:w.heap.size<(w.alloc a0f).heap.size:=by simp
 have CC:=a0b (C _ P0.out.bl);clear h C h0;simp only[e2E,List.mem_cons,Prod.mk.injEq,List.not_mem_nil,or_false] at hf;rcases hf with ⟨rfl,rfl⟩|⟨rfl,rfl⟩|⟨rfl,rfl⟩|⟨rfl,rfl⟩|⟨rfl,rfl⟩|⟨rfl,rfl⟩|⟨rfl,rfl⟩|⟨rfl,rfl⟩|⟨rfl,rfl⟩|⟨rfl,rfl⟩
 all_goals
  go_enter Tryz.func117,Tryz.ntmps117
  go_upto_region 1 with fail
  change Code.wp _ _ _ _ (w.alloc a0f);generalize w.alloc a0f=X at *
  go_wp2_with fail
  refine CC.out.mono ?_;intro e w2 hA;obtain⟨a1,a2,a3,a4,n1,n2,n3,n4,c1,c2,c3,c4,rfl,h7,hA⟩:=hA.up P0.out.bl (zq _) hQ HL.out.1 HL.out.2 (Q7.of (P0.out.kb (w.heap.size,a0f) (by simp)));have HA:=a0b hA;obtain⟨q0,q1,q2,q3,q4,q5,q6,fq⟩:=h7;clear hA y0 CC;simp only[a0s]
  go_wp2_with fail
  exact bodyPost_ret (v:=a0s q.2.err 0 q.2.n (.slice a1 n1 c1) (.slice a2 n2 c2) (.slice a3 n3 c3) (.slice a4 n4 c4)) (by simp[results,Tryz.results117,go_sem,a0s,q0,q1,q2,q3,q4,q5,q6]) rfl HA.out
theorem e7i{s:St}(h:DD w d s xs F){c:Nat}(hn:0<n)(h0:w.cell? ⟨g,0,none⟩=some (.string ⟨#[99,108,111,99,107]⟩)):
  Calls Tryz.prog 117 #[.pointer (some ⟨d,0,none⟩),.slice (some ⟨g,0,none⟩) n c] w (d1S w d F xs (a0g s .clock)):=by
 have P0:=a0b ((KP.nil w).alloc a0f);have H:=a0b h;have i0:(0:Int)<(n:Int):=by omega
 have y0:=a0a P0.out.bl h0;have n3:=(h.later P0.out.bl).rd.c3;have HF:Hid (d1S w d F xs (a0g s .clock) (.returned (a0s 0 0 s.now c7N c7N c7N c7N)) (a2w (w.alloc a0f) w.heap.size (.int .i64 0) (.int .i64 0) (.int .i64 s.now) c7N c7N c7N c7N)):=h.said P0.out.bl (zq _) 0 s.now _ _ _ _ _ _ _;clear h h0
 go_enter Tryz.func117,Tryz.ntmps117
 go_upto_region 1 with fail
 change Code.wp _ _ _ _ (w.alloc a0f);generalize w.alloc a0f=X at *;obtain⟨q0,q1,q2,q3,q4,q5,q6,fq⟩:=Q7.of (P0.out.kb (w.heap.size,a0f) (by simp))
 go_wp2_with fail
 exact bodyPost_ret (v:=a0s 0 0 s.now c7N c7N c7N c7N) (by simp[results,Tryz.results117,go_sem,a0s,c7N,q0,q1,q2,q3,q4,q5,q6]) rfl HF.out
open Desk (Ent St Rep a0g a0R)
def DDo(w:World)(d:Nat)(F:List Nat)(xs:List (Ent × Nat × Nat))(q:St × Rep)(e:Ending)(w':World):Prop :=
 ∃ (v1 v2 v3 v4:Value) (xs':List (Ent × Nat × Nat)) (F':List Nat),e=.returned (a0s q.2.err q.2.at_ q.2.n v1 v2 v3 v4)/\e2L w' v1 v2 v4 q.2/\NV w' v3 q.2.granted/\DD w' d q.1 xs' F'/\(∀ k∈F',k∈F\/w.heap.size<=k)/\Off F w w'/\∀ x∈xs',(∃ y∈xs,x.2.1=y.2.1)\/w.heap.size<=x.2.1
theorem NV.own{l:List Int}(h:w.ownsRow B 3 1 v n (l.map (Value.int .i64))):NV w v l:=by
 obtain⟨a,cap,g,rfl,rfl,ha,hc⟩:=e1E h;exact⟨⟨_,_,rfl⟩,fun k hk=>⟨g,cap,by rw[ha (by intro e;simp[e] at hk)],hc k hk⟩⟩
theorem e2L.gr{v1 v2 v4:Value}{p:Rep}(h:e2L w v1 v2 v4 p)(g:List Int):e2L w v1 v2 v4 { p with granted:=g }:=⟨h.en,h.da,h.ed⟩
def fin(q:St × Rep):St × Rep:=if q.2.err≠0 then q else ({ q.1 with es:=(a0R q.1.ts q.1.es).1 },{ q.2 with granted:=q.2.granted++(a0R q.1.ts q.1.es).2 })
theorem e3Y{s:St}(h:DD w d s xs F)(t:ByteArray){er at_:Int}(he:er≠0)(hR:∀ X,Calls Tryz.prog 78 #[.string t] X fun e w'=>e=.returned (.tuple #[.slice none 0 0,.slice none 0 0,.int .i64 er,.int .i64 at_])/\Below X.heap.size X w'):
  Calls Tryz.prog 75 #[.pointer (some ⟨d,0,none⟩),.string t] w (DDo w d F xs (s,⟨er,at_,0,[],[],[],[]⟩)):=by
 have P0:=a0b ((KP.nil w).alloc a0f);have H:=a0b h;have RD:=a0b hR;have he':(er != 0)=true:=by simpa using he
 clear h hR he
 go_enter Tryz.func75,Tryz.ntmps75
 go_upto_region 1 with fail
 change Code.wp _ _ _ _ (w.alloc a0f);generalize w.alloc a0f=X at *
 go_wp2_with fail
 refine (RD.out _).mono ?_;rintro e w1 ⟨rfl,hb1⟩;replace P0:=a0b (P0.out.later hb1)
 have HF:Hid (DDo w d F xs (s,⟨er,at_,0,[],[],[],[]⟩) (.returned (a0s er at_ 0 c7N c7N c7N c7N)) (a2w w1 w.heap.size (.int .i64 er) (.int .i64 at_) (.int .i64 0) c7N c7N c7N c7N)):=by
  have k7:=a2R w1 w.heap.size (.int .i64 er) (.int .i64 at_) (.int .i64 0) c7N c7N c7N c7N;have hx:∀ x,x<w.heap.size->x ∉ [w.heap.size]:=fun x hx e=>by simp at e;omega
  exact⟨c7N,c7N,c7N,c7N,xs,F,rfl,e2L.nil _,NV.nil _,(H.out.later P0.out.bl).off k7 (fun x h1=>hx x (H.out.lt x h1)) (fun x h1=>hx _ (H.out.rd.sp x h1).2.2),fun _ h1=>.inl h1,(Off.of_below P0.out.bl).trans' k7 (fun x h1=>.inr (by simp at h1;omega)),fun x h1=>.inl ⟨x,h1,rfl⟩⟩
 obtain⟨q0,q1,q2,q3,q4,q5,q6,fq⟩:=Q7.of (P0.out.kb (w.heap.size,a0f) (by simp));clear hb1
 go_wp2_with fail
 exact bodyPost_ret (v:=a0s er at_ 0 c7N c7N c7N c7N) (by simp[results,Tryz.results75,go_sem,a0s,c7N,q0,q1,q2,q3,q4,q5,q6]) rfl HF.out
theorem f1l{s:St}(h:DD w d s xs F)(t:ByteArray)(ht:t.size<=160){p:List ByteArray}(hp:g0V t=(some p,0))(hne:0<(Txt.a1v t).length){q:St × Rep}(h0:q.2.at_=0)(hg:q.2.granted.length<=50000)
  (C:∀ X g c,Below w.heap.size w X->(∀ (j:Nat) (hj:j<(Txt.a1v t).length),X.cell? ⟨g,j,none⟩=some (.string (Txt.a1v t)[j]))->Calls Tryz.prog 117 #[.pointer (some ⟨d,0,none⟩),.slice (some ⟨g,0,none⟩) (Txt.a1v t).length c] X (d1S X d F xs q)):
  Calls Tryz.prog 75 #[.pointer (some ⟨d,0,none⟩),.string t] w (DDo w d F xs (fin q)):=by
 have P0:=a0b ((KP.nil w).alloc a0f);have H:=a0b h;have HC:=a0b C;have HP:=a0b hp;clear h C hp
 go_enter Tryz.func75,Tryz.ntmps75
 go_upto_region 1 with fail
 change Code.wp _ _ _ _ (w.alloc a0f);generalize w.alloc a0f=X at *
 go_wp2_with fail
 refine (d4Z t X ht).mono ?_;rintro e w1 ⟨hr,hb1⟩;rcases hr with ⟨p',a,b,c,d',g,h',hsc,rfl,ra,rb⟩|⟨m,hsc,rfl⟩
 case' inr=>rw[HP.out] at hsc;cases hsc
 obtain rfl:=ra.at_ hne;replace P0:=a0b (P0.out.later hb1);have DC:=a0b (HC.out w1 g c P0.out.bl ra.cells);clear hb1 ra rb hsc
 go_wp2_with fail
 refine DC.out.mono ?_;intro e w2 hA;have hQ1:w.heap.size<w1.heap.size:=P0.out.lt (q:=(w.heap.size,a0f)) (by simp);have h7:=Q7.of (P0.out.kb (w.heap.size,a0f) (by simp));obtain⟨v1,v2,v3,v4,xs',F',G,rfl,hT,h3,hD,hF',hO,hG,h3F,hS⟩:=hA;have T:=hT w2 (fun _ _=>rfl);obtain⟨l,hl,_⟩:=T.en;obtain⟨a1,c1,rfl⟩:=hl.form;obtain⟨a2,c2,rfl⟩:=T.da.form;obtain⟨a3,c3,rfl⟩:=c9y h3;obtain⟨a4,c4,rfl⟩:=T.ed.form;have hQF:w.heap.size ∉ F:=fun e=>by have:=H.out.lt _ e;omega
 have hw12:=hO.size;have hQF':w.heap.size ∉ F':=fun e=>by rcases hF' _ e with e|e;exact hQF e;omega
 have h72:=h7.later (hO.block _ hQ1 hQF)
 have hsp:∀ x∈xs',x.2.1≠w.heap.size/\x.2.1<w2.heap.size:=fun x hx=>⟨fun e=>by
  rcases hS x hx with ⟨y,hy,e2⟩|e2
  ·have:=(H.out.rd.sp y hy).2.2;omega
  ·omega,(hD.rd.sp x hx).2.2⟩
 have hS2:∀ x∈xs',(∃ y∈xs,x.2.1=y.2.1)\/w.heap.size<=x.2.1:=fun x hx=>(hS x hx).imp id (fun e=>by omega)
 have hw2:Off F w w2:=(Off.of_below P0.out.bl).trans hO;have KR:=(KP.nil w2).alloc (.cells #[.int .i64 q.2.err,.int .i64 0,.int .i64 q.2.n,.slice a1 l.length c1,.slice a2 q.2.days.length c2,.slice a3 q.2.granted.length c3,.slice a4 q.2.ended.length c4] 40);have hZs:w2.heap.size<(w2.alloc (.cells #[.int .i64 q.2.err,.int .i64 0,.int .i64 q.2.n,.slice a1 l.length c1,.slice a2 q.2.days.length c2,.slice a3 q.2.granted.length c3,.slice a4 q.2.ended.length c4] 40)).heap.size:=by simp
 have A:=a0b (zA hT (zA h3 (zA hD (zA hF' (zA hO (zA hG (zA h3F (zA hsp (zA hS2 (zA hw2 h72))))))))));clear T hl hT h3 hD hF' hO hG h3F hS hsp hS2 hw2 h72 h7 DC HC;simp only[a0s]
 go_upto_region 5 with fail
 have HK:=a0b KR;have r0:=KR.hc 0 rfl;have r1:=KR.hc 1 rfl;have r2:=KR.hc 2 rfl;have r3:=KR.hc 3 rfl;have r4:=KR.hc 4 rfl;have r5:=KR.hc 5 rfl;have r6:=KR.hc 6 rfl;have rf:=KR.hf;clear KR;generalize w2.alloc _=Z at *;have kZ:=HK.out.bl;have Q2:=a0b (A.out.2.2.2.2.2.2.2.2.2.2.later (kZ.block _ (by omega)));have DZ:=a0b (A.out.2.2.1.later kZ);have WZ:=a0b (A.out.2.2.2.2.2.2.2.2.2.1.trans (Off.of_below kZ))
 by_cases he:q.2.err=0
 ·have he':(q.2.err != 0)=false:=by simp[he]
  have GR:=a0b (f2a DZ.out);have E9:Hid (fin q=({ q.1 with es:=(a0R q.1.ts q.1.es).1 },{ q.2 with granted:=q.2.granted++(a0R q.1.ts q.1.es).2 })):=by show _=_;unfold fin;rw[if_neg (by simp[he])]
  have hgl:Hid ((a0R q.1.ts q.1.es).2.length<=60):=by
   have:=(a6g q.1.ts q.1.es []).2;have:=DZ.out.el;show (Desk.a0O _ _ _).2.length<=60;omega
  have HE:=a0b he;clear he kZ
  go_wp2_with fail
  refine GR.out.mono ?_;rintro e w3 ⟨v5,rfl,h5,⟨xs3,hD3,hB3⟩,hO3⟩;obtain⟨a5,c5,rfl⟩:=c9y h5;obtain⟨hT,h3,hD,hF',hO,hG,h3F,hsp,hS2,hw2,h72⟩:=A.out;have kZ:=HK.out.bl;have hRF:w2.heap.size ∉ F':=fun e=>by have:=hD.lt _ e;omega
  have h33:=a1i (a1g h3 kZ) hO3 (fun b hb=>(h3F b hb).1);have hz3:=hO3.size;have n3:a2I w3 w1.heap.size (fun _=>none) (.slice a3 q.2.granted.length c3) q.2.granted:=⟨h33,fun _ _=>rfl⟩;have n5:a2I w3 w1.heap.size (fun _=>none) (.slice a5 (a0R q.1.ts q.1.es).2.length c5) (a0R q.1.ts q.1.es).2:=⟨d7F h5 (by omega),fun _ _=>rfl⟩;obtain⟨v6,w4,hrun,n6,hgrow,hat⟩:=n3.append n5 (by omega) (fun _ _=>rfl) (by have:=hgl.out;omega);obtain⟨a6,c6,rfl⟩:=c9y n6.own;have h3b:∀ b,(Value.slice a3 q.2.granted.length c3).ownBlock=some b->w1.heap.size<=b/\b<w2.heap.size:=fun b hb=>⟨d0G h3 hb,c7O h3 hb⟩
  have k4:Off (Value.slice a3 q.2.granted.length c3).ownBlock.toList w3 w4:=(Off.refl _ w3).grown hgrow (fun k hk=>.inl (by simp[hk]));have h3t:∀ x∈(Value.slice a3 q.2.granted.length c3).ownBlock.toList,(Value.slice a3 q.2.granted.length c3).ownBlock=some x:=fun x hx=>by simpa using hx
  have bR:w4.heap[w2.heap.size]?=Z.heap[w2.heap.size]?:=(k4.block _ (by omega) (fun e=>by have:=(h3b _ (h3t _ e)).2;omega)).trans (hO3.block _ (by omega) hRF);have bQ:w4.heap[w.heap.size]?=Z.heap[w.heap.size]?:=(k4.block _ (by omega) (fun e=>by have:=(h3b _ (h3t _ e)).1;omega)).trans (hO3.block _ (by omega) hQF');have s0:=(zo (a:=⟨w2.heap.size,0,none⟩) bR).trans r0;have s1:=(zo (a:=⟨w2.heap.size,1,none⟩) bR).trans r1;have s2:=(zo (a:=⟨w2.heap.size,2,none⟩) bR).trans r2;have s3:=(zo (a:=⟨w2.heap.size,3,none⟩) bR).trans r3;have s4:=(zo (a:=⟨w2.heap.size,4,none⟩) bR).trans r4;have s5:=(zo (a:=⟨w2.heap.size,5,none⟩) bR).trans r5;have s6:=(zo (a:=⟨w2.heap.size,6,none⟩) bR).trans r6;have t5:=(zo (a:=⟨w2.heap.size,5,none⟩) (hO3.block _ (by omega) hRF)).trans r5;have sf:w4.frozen? ⟨w2.heap.size,5,none⟩=false:=by have:=rf 5;simp only[World.frozen?,bR];exact this
  have hRQ:w2.heap.size≠w.heap.size:=by omega
  obtain⟨q0,q1,q2,q3,q4,q5,q6,fq⟩:=Q2.out.later bQ;obtain⟨N6,hN6⟩:∃ N6,N6=(q.2.granted++(a0R q.1.ts q.1.es).2).length:=⟨_,rfl⟩
  have HF:Hid (∀ Y,Y=w4.setCell ⟨w2.heap.size,5,none⟩ (.slice a6 N6 c6)->DDo w d F xs ({ q.1 with es:=(a0R q.1.ts q.1.es).1 },{ q.2 with granted:=q.2.granted++(a0R q.1.ts q.1.es).2 }) (.returned (a0s q.2.err 0 q.2.n (.slice a1 l.length c1) (.slice a2 q.2.days.length c2) (.slice a6 N6 c6) (.slice a4 q.2.ended.length c4))) (a2w Y w.heap.size (.int .i64 q.2.err) (.int .i64 0) (.int .i64 q.2.n) (.slice a1 l.length c1) (.slice a2 q.2.days.length c2) (.slice a6 N6 c6) (.slice a4 q.2.ended.length c4))):=by
   rw[hN6];rintro Y rfl;have k5:Off [w2.heap.size] w4 (w4.setCell ⟨w2.heap.size,5,none⟩ (.slice a6 (q.2.granted++(a0R q.1.ts q.1.es).2).length c6)):=Off.set0 ..;have k7:=a2R (w4.setCell ⟨w2.heap.size,5,none⟩ (.slice a6 (q.2.granted++(a0R q.1.ts q.1.es).2).length c6)) w.heap.size (.int .i64 q.2.err) (.int .i64 0) (.int .i64 q.2.n) (.slice a1 l.length c1) (.slice a2 q.2.days.length c2) (.slice a6 (q.2.granted++(a0R q.1.ts q.1.es).2).length c6) (.slice a4 q.2.ended.length c4);have k57:=(k5.mono (G:=[w2.heap.size,w.heap.size]) (by simp)).trans (k7.mono (by simp));have hz4:=k4.size;have n7:∀ x,x∈[w2.heap.size,w.heap.size]->x=w2.heap.size\/x=w.heap.size:=fun x hx=>by simpa using hx
   have hx3:∀ x∈xs3,∃ z∈xs',x.2.1=z.2.1:=hB3
   have hD4:=(hD3.off k4 (fun x hx e=>(h3F x (h3t x e)).1 hx) (fun x hx e=>by
    obtain⟨z,hz,e2⟩:=hx3 x hx
    exact (h3F _ (h3t _ e)).2 z hz e2.symm)).off k57 (fun x hx e=>by
     rcases n7 x e with rfl|rfl
     ·exact hRF hx
     ·exact hQF' hx) (fun x hx e=>by
     obtain⟨z,hz,e2⟩:=hx3 x hx;have:=hsp z hz
     rcases n7 _ e with e3|e3 <;> omega)
   refine⟨_,_,_,_,xs3,F',by rw[h0],(hT _ (fun b hb=>?_)).gr _,NV.own (a1i n6.own k57 (fun b hb e=>?_)),hD4,fun k hk=>(hF' k hk).imp id (fun e=>by omega),(((WZ.out.trans' hO3 (fun x hx=>(hF' x hx).imp id (fun e=>by omega))).trans' k4 (fun x hx=>.inr (by have:=(h3b x (h3t x hx)).1;omega))).trans' k57 (fun x hx=>.inr (by rcases n7 x hx with e|e <;> omega))),fun x hx=>?_⟩
   ·obtain⟨g1,g2,g3,g4⟩:=hG b hb;refine (k57.block b (by omega) (fun e=>by rcases n7 b e with e|e <;> omega)).trans ((k4.block b (by omega) (fun e=>g4 (h3t b e))).trans ((hO3.block b (by omega) g3).trans (kZ.block b g2)))
   ·have h8:b<w2.heap.size/\w1.heap.size<=b\/w3.heap.size<=b:=by
     rcases hat with e2|e2
     ·rw[e2] at hb;exact .inl ⟨(h3b b hb).2,(h3b b hb).1⟩
     ·rw[e2] at hb;simp only[Option.some.injEq] at hb;exact .inr (by omega)
    rcases n7 b e with e|e <;> omega
   ·obtain⟨z,hz,e2⟩:=hx3 x hx;rw[e2];exact hS2 z hz
  rw[<- hN6] at hrun;have HR:=a0b hrun;clear hT h3 hD hF' hO hG h3F hsp hS2 hw2 h72 h33 n3 n5 n6 hgrow hat h3b k4 h3t bR bQ hrun h5 hD3 hB3 hO3 A r0 r1 r2 r3 r4 r5 r6 rf kZ hN6
  go_wp2_with (first|(at_builtin;refine d6i rfl _ _ 38 _ rfl (HR.out _) ?_))
  exact bodyPost_ret (v:=a0s q.2.err 0 q.2.n (.slice a1 l.length c1) (.slice a2 q.2.days.length c2) (.slice a6 N6 c6) (.slice a4 q.2.ended.length c4)) (by simp[results,Tryz.results75,go_sem,a0s,q0,q1,q2,q3,q4,q5,q6]) rfl (by rw[E9.out];exact HF.out _ rfl)
 ·have he':(q.2.err != 0)=true:=by simpa using he
  have E9:Hid (fin q=q):=by show _=_;unfold fin;rw[if_pos he]
  have HF:Hid (DDo w d F xs q (.returned (a0s q.2.err 0 q.2.n (.slice a1 l.length c1) (.slice a2 q.2.days.length c2) (.slice a3 q.2.granted.length c3) (.slice a4 q.2.ended.length c4))) (a2w Z w.heap.size (.int .i64 q.2.err) (.int .i64 0) (.int .i64 q.2.n) (.slice a1 l.length c1) (.slice a2 q.2.days.length c2) (.slice a3 q.2.granted.length c3) (.slice a4 q.2.ended.length c4))):=by
   have k7:=a2R Z w.heap.size (.int .i64 q.2.err) (.int .i64 0) (.int .i64 q.2.n) (.slice a1 l.length c1) (.slice a2 q.2.days.length c2) (.slice a3 q.2.granted.length c3) (.slice a4 q.2.ended.length c4);obtain⟨hT,h3,hD,hF',hO,hG,h3F,hsp,hS2,hw2,h72⟩:=A.out;refine⟨_,_,_,_,xs',F',by rw[h0],hT _ (fun b hb=>(k7.block b (zL (hG b hb).2.1 kZ.size) (fun e=>by have:=(hG b hb).1;simp at e;omega)).trans (kZ.block b (hG b hb).2.1)),NV.own (a1i (a1g h3 kZ) k7 (fun b hb e=>by have:=d0G h3 hb;simp at e;omega)),DZ.out.off k7 (fun x hx e=>hQF' (by simp at e;exact e ▸ hx)) (fun x hx e=>(hsp x hx).1 (by simpa using e)),fun k hk=>(hF' k hk).imp id (fun e=>by omega),WZ.out.trans' k7 (fun x hx=>.inr (by simp at hx;omega)),hS2⟩
  obtain⟨q0,q1,q2,q3,q4,q5,q6,fq⟩:=Q2.out;clear he A
  go_wp2_with fail
  exact bodyPost_ret (v:=a0s q.2.err 0 q.2.n (.slice a1 l.length c1) (.slice a2 q.2.days.length c2) (.slice a3 q.2.granted.length c3) (.slice a4 q.2.ended.length c4)) (by simp[results,Tryz.results75,go_sem,a0s,q0,q1,q2,q3,q4,q5,q6]) rfl (by rw[E9.out];exact HF.out)
end Go.Proofs.YtfigmlfdnickmaaGreatDoor
