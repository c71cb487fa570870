import Derived.Test.YtfigmlfdnickmaaGreatDoorL10
import Derived.BigQuiet
set_option maxRecDepth 100000
set_option maxHeartbeats 8000000
variable{s x:ByteArray}{fr mi mn pc ti un:Int}{P:Int->List Go.Value}{ys:List (Go.Proofs.YtfigmlfdnickmaaGreatDoor.Desk.Ent × Nat × Nat)}{acc:List Int}{F:List Nat}{pat xs:List Go.Value}{B Q b0 cap n p z:Nat}{st:Nat × Bool}{col:Nat->Option Go.Proofs.YtfigmlfdnickmaaGreatDoor.Col}{o:Go.Obj}{a b c r' u v:Go.Value}{W X Z Z' Z3 w w' w0 w9 wr:Go.World}
namespace Go.Proofs.YtfigmlfdnickmaaGreatDoor
open Go.RowKit
variable {w:World}{B:Nat}{v0 v1 r1 r2 r3:Value}{K:List Nat}{X1 X2 X3:List KL}
theorem f8Y:(Tryz.prog.info? tI).map (fun i=>(i.zero,i.size,i.bytes))=some (some (.agg #[.slice none 0 0,.slice none 0 0,.slice none 0 0,.slice none 0 0,.int .i64 0]),5,104):=by kernel_rfl
theorem d1o{e:Nat}(h:W.ownsRow b0 e z v n xs){k:Nat}(hk:k<xs.length):∃ g cap u,v=.slice (some ⟨g,0,none⟩) n cap/\W.cell? ⟨g,k,none⟩=some u/\∀ o,W.frozen? ⟨g,o,none⟩=false:=by
 rcases h.2 with ⟨rfl,rfl⟩|⟨g,cap,cur,rfl,_,hh,_⟩
 ·have:=h.1;rw[Nat.zero_mul] at this;omega
 ·exact⟨g,cap,xs[k],rfl,(f6U g k) ▸ h.cells (g:=g) rfl k xs[k] (List.getElem?_eq_getElem hk),fun o=>by simp[World.frozen?,hh]⟩
theorem g4s{m:Int}{k:Nat}(hk:k<xs.length):(rp (e5O m) k++xs.drop k).set k (.int .i64 m)=rp (e5O m) (k+1)++xs.drop (k+1):=by
 have hl:(rp (e5O m) k).length=k:=by rw[d4O];simp
 rw[List.set_append,if_neg (by omega),hl,Nat.sub_self,List.drop_eq_getElem_cons hk,e6y,List.append_assoc];rfl
def e5M(w:World)(B:Nat)(v0 v1:Value)(K:List Nat)(r1 r2 r3:Value)(l:Value)(n:Nat)(w':World):Prop :=
 ∃ K' r1' r2' r3' Y1 Y2 Y3,BK w' B v0 v1 K' r1' r2' r3' Y1 Y2 Y3/\Y1.length+Y2.length+Y3.length=n+1/\Off (l.ownBlock.toList++bkB B r1 r2 r3) w w'/\(∀ b∈K',b∈K\/l.ownBlock=some b\/w.heap.size<=b)/\(∀ b∈bkB B r1' r2' r3',b∈bkB B r1 r2 r3\/w.heap.size<=b)
structure KS(pat:List Value)(e:TypeId)(w0 Z:World)(l:Value)(n Q:Nat)(o:Obj):Prop where
 own:Z.ownsRow 0 e pat.length l n (rp pat n)
 hq:Z.heap[Q]?=some o
 lo:w0.heap.size<=Q
 off:Off l.ownBlock.toList w0 Z
 lt:∀ b,l.ownBlock=some b->b<w0.heap.size
theorem KS.put{e:TypeId}{l:Value}{cs:Array Value}{t:TypeId}(h:KS pat e w0 Z l n Q (.cells cs t))(k:Off l.ownBlock.toList Z Z')(ho:Z'.ownsRow 0 e pat.length l n (rp pat n))(i:Nat)(v:Value):KS pat e w0 (Z'.setCell ⟨Q,i,none⟩ v) l n Q (.cells (cs.setIfInBounds i v) t):=by
 have hQ:Q ∉ l.ownBlock.toList:=fun e=>by have:=h.lt Q (by simpa using e);have:=h.lo;omega
 have kd:Off [Q] Z' (Z'.setCell ⟨Q,i,none⟩ v):=Off.set0 ..;refine⟨a1i ho kd (fun b hb e=>hQ (by simp at e;subst e;simpa using hb)),d1X ((k.block Q (Array.getElem?_eq_some_iff.1 h.hq).1 hQ).trans h.hq) v,h.lo,(h.off.trans k).setCell (.inr h.lo) _ _,h.lt⟩
theorem KS.at_{e:TypeId}{l:Value}{cs:Array Value}{t:TypeId}(h:KS pat e w0 Z l n Q (.cells cs t))(k:Off l.ownBlock.toList Z Z'):Z'.heap[Q]?=some (.cells cs t)/\∀ o,Z'.frozen? ⟨Q,o,none⟩=false:=by
 have hQ:Q ∉ l.ownBlock.toList:=fun e=>by have:=h.lt Q (by simpa using e);have:=h.lo;omega
 have e:=(k.block Q (Array.getElem?_eq_some_iff.1 h.hq).1 hQ).trans h.hq;exact⟨e,fun o=>by simp[World.frozen?,e]⟩
structure KF(pat:List Value)(e:TypeId)(w0 Z:World)(l:Value)(n Q:Nat)(o:Obj)(us:List (Value × Nat)):Prop where
 ks:KS pat e w0 Z l n Q o
 fs:∀ p∈us,Fu pat Z p.1 p.2/\∀ b,p.1.ownBlock=some b->b≠Q/\b<Z.heap.size/\(l.ownBlock=some b\/w0.heap.size<=b)
theorem KF.put{e:TypeId}{l:Value}{m g:Nat}{cs:Array Value}{t:TypeId}{us:List (Value × Nat)}(h:KF pat e w0 Z l n Q (.cells cs t) us)(o6:Z'.ownsRow 0 e pat.length (.slice (some ⟨g,0,none⟩) (n+m) cap) (n+m) (rp pat (n+m)))(ol6:Z'.ownsRow 0 e pat.length l n (rp pat n))(f6:∀ u j,j<=n+m->Fu pat Z u j->Fu pat Z' u j)(k6:Off l.ownBlock.toList Z Z')(at6:l.ownBlock=some g\/Z.heap.size<=g)(hj:∀ p∈us,p.2<=n+m)(i:Nat):
  KF pat e w0 (Z'.setCell ⟨Q,i,none⟩ (.slice (some ⟨g,0,none⟩) (n+m) cap)) l n Q (.cells (cs.setIfInBounds i (.slice (some ⟨g,0,none⟩) (n+m) cap)) t) ((.slice (some ⟨g,0,none⟩) (n+m) cap,n+m) :: us):=by
 have kd:Off [Q] Z' (Z'.setCell ⟨Q,i,none⟩ (.slice (some ⟨g,0,none⟩) (n+m) cap)):=Off.set0 ..;have hQ:Q<Z.heap.size:=(Array.getElem?_eq_some_iff.1 h.ks.hq).1;have hz:=h.ks.off.size
 have hg:g≠Q/\g<Z'.heap.size/\(l.ownBlock=some g\/w0.heap.size<=g):=by
  refine⟨?_,c7O o6 (by simp[Value.ownBlock]),at6.imp id fun e=>by omega⟩;rcases at6 with e|e
  ·have:=h.ks.lt g e;have:=h.ks.lo;omega
  ·omega
 refine⟨h.ks.put k6 ol6 i _,fun p hp=>?_⟩;rcases List.mem_cons.1 hp with rfl|hp
 ·refine⟨(Fu.of_own o6).off kd (fun b hb e=>?_),fun b hb=>?_⟩
  ·simp[Value.ownBlock] at hb e;exact hg.1 (hb.trans e)
  ·simp[Value.ownBlock] at hb;subst hb;exact⟨hg.1,Nat.lt_of_lt_of_le hg.2.1 kd.size,hg.2.2⟩
 ·obtain⟨p1,p2⟩:=h.fs p hp;exact⟨(f6 _ _ (hj p hp) p1).off kd (fun b hb e=>(p2 b hb).1 (by simpa using e)),fun b hb=>⟨(p2 b hb).1,Nat.lt_of_lt_of_le (zL (p2 b hb).2.1 k6.size) kd.size,(p2 b hb).2.2⟩⟩
theorem BK.lt(h:BK w B v0 v1 K r1 r2 r3 X1 X2 X3):∀ b∈bkB B r1 r2 r3,b<w.heap.size:=fun b hb=>by
 simp only[bkB,List.mem_cons,List.mem_append,Option.mem_toList] at hb;rcases hb with rfl|hb|hb|hb
 ·exact (Array.getElem?_eq_some_iff.1 h.hb).1
 ·exact c7O h.br.b1.own hb
 ·exact c7O h.br.b2.own hb
 ·exact c7O h.br.b3.own hb
theorem KF.blocks{e:TypeId}{l:Value}{m:Int}(hT:KF pat e wr Z3 l n Q o [(c,n+3),(b,n+2),(a,n+1),(l,n)]):∀ q∈klB (l,a,b,c,m),q<Z3.heap.size/\(l.ownBlock=some q\/wr.heap.size<=q):=fun q hq=>by
 simp only[klB,List.mem_append,Option.mem_toList] at hq;rcases hq with hq|hq|hq|hq
 ·exact ((hT.fs (l,n) (by simp)).2 q hq).2
 ·exact ((hT.fs (a,n+1) (by simp)).2 q hq).2
 ·exact ((hT.fs (b,n+2) (by simp)).2 q hq).2
 ·exact ((hT.fs (c,n+3) (by simp)).2 q hq).2
theorem KF.k4{e:TypeId}{l:Value}{m:Int}(hT:KF (P m) e wr Z3 l n Q o [(c,n+3),(b,n+2),(a,n+1),(l,n)])(hn:n<=900000):K4 P Z3 (l,a,b,c,m) :=
 ⟨n,hn,(hT.fs (l,n) (by simp)).1,(hT.fs (a,n+1) (by simp)).1,(hT.fs (b,n+2) (by simp)).1,(hT.fs (c,n+3) (by simp)).1⟩
theorem BK.kept{l r1' r2' r3':Value}{m:Int}{e:TypeId}{Y1 Y2 Y3:List KL}(hT:KF pat e wr Z3 l n Q o [(c,n+3),(b,n+2),(a,n+1),(l,n)])(R3:Off l.ownBlock.toList w Z3)(hw:w.heap.size<=wr.heap.size)(hl:Y1.length+Y2.length+Y3.length=X1.length+X2.length+X3.length+1)
  (hr:∀ q∈bkB B r1' r2' r3',q∈bkB B r1 r2 r3\/Z3.heap.size<=q) (hk:BK w9 B v0 v1 (klB (l,a,b,c,m)++K) r1' r2' r3' Y1 Y2 Y3/\Off (bkB B r1 r2 r3) Z3 w9):e5M w B v0 v1 K r1 r2 r3 l (X1.length+X2.length+X3.length) w9:=by
 refine⟨_,r1',r2',r3',Y1,Y2,Y3,hk.1,hl,(R3.mono fun y hy=>List.mem_append_left _ hy).trans (hk.2.mono fun y hy=>List.mem_append_right _ hy),fun q hq=>?_,fun q hq=>(hr q hq).imp id fun e=>by have:=R3.size;omega⟩;rcases List.mem_append.1 hq with hq|hq
 ·rcases (hT.blocks q hq).2 with e|e
  ·exact .inr (.inl e)
  ·exact .inr (.inr (by omega))
 ·exact .inl hq
theorem BK.apart{l:Value}{m:Int}{e:TypeId}(h:BK w B v0 v1 K r1 r2 r3 X1 X2 X3)(hT:KF pat e wr Z3 l n Q o [(c,n+3),(b,n+2),(a,n+1),(l,n)])(hw:w.heap.size<=wr.heap.size)(hlK:∀ b,l.ownBlock=some b->b ∉ K/\b ∉ bkB B r1 r2 r3):∀ q∈klB (l,a,b,c,m),q<Z3.heap.size/\q ∉ bkB B r1 r2 r3:=fun q hq=>by
 refine⟨(hT.blocks q hq).1,fun e=>?_⟩;rcases (hT.blocks q hq).2 with e1|e1
 ·exact (hlK q e1).2 e
 ·have:=h.lt q e;omega
theorem BK.kept1{l:Value}{m:Int}{e:TypeId}(h:BK w B v0 v1 K r1 r2 r3 X1 X2 X3)(h3:BK Z3 B v0 v1 K r1 r2 r3 X1 X2 X3)(hT:KF (e5O m) e wr Z3 l n Q o [(c,n+3),(b,n+2),(a,n+1),(l,n)])(hn:n<=900000)(R3:Off l.ownBlock.toList w Z3)(hw:w.heap.size<=wr.heap.size)(hlK:∀ b,l.ownBlock=some b->b ∉ K/\b ∉ bkB B r1 r2 r3)
  (k9:Off r1.ownBlock.toList Z3 w9) (o9:w9.ownsRow 0 tI 5 r' (X1.length+1) (X1.flatMap klV++klV (l,a,b,c,m))) (hat:g2M Z3 r1 r'):e5M w B v0 v1 K r1 r2 r3 l (X1.length+X2.length+X3.length) (w9.setCell ⟨B,2,none⟩ r') :=
 BK.kept hT R3 hw (by simp;omega) (fun q hq=>by
  simp only[bkB,List.mem_cons,List.mem_append,Option.mem_toList] at hq ⊢;rcases hq with rfl|hq|hq|hq
  ·exact .inl (.inl rfl)
  ·exact (hat q hq).imp (fun e=>.inr (.inl e)) id
  ·exact .inl (.inr (.inr (.inl hq)))
  ·exact .inl (.inr (.inr (.inr hq)))) (h3.add1 (hT.k4 (P:=e5O) hn) (h.apart hT hw hlK) k9 o9 hat)
theorem e4A(h:BK w B v0 v1 K r1 r2 r3 X1 X2 X3)(h1:X1.length<=1000000000)(h2:X2.length<=1000000000)(h3:X3.length<=1000000000){l:Value}(hl:w.ownsRow 0 3 1 l n xs)(hn:n<=900000)(hlK:∀ b,l.ownBlock=some b->b ∉ K/\b ∉ bkB B r1 r2 r3):
  Calls Tryz.prog 123 #[.pointer (some ⟨B,2,none⟩),l] w fun e w'=>e=.returned (.tuple #[])/\e5M w B v0 v1 K r1 r2 r3 l (X1.length+X2.length+X3.length) w':=by
 obtain⟨i0,hi0,hz0,hz1,hz2⟩:=info_parts b1S;obtain⟨j0,hj0,jz0,jz1,jz2⟩:=info_parts f8Y;obtain⟨a,cp,rfl⟩:=c9y hl;have HB:=a0b h;have HL:=a0b hl;have HK:=a0b hlK;have HLT:=a0b (fun b (hb:(Value.slice a n cp).ownBlock=some b)=>c7O hl hb);have hxl:xs.length=n:=by have:=hl.1;omega
 clear h hl hlK
 go_enter Tryz.func123,Tryz.ntmps123
 go_upto_region 2 with (first|(go_at_call 184;refine (e1W HB.out h1 h2 h3).mono ?_;rintro e w1 ⟨rfl,hb⟩;have H1:=a0b hb;clear hb))
 generalize hmm:f8N X1 X2 X3=m;have HL1:=a0b (a1g HL.out H1.out)
 go_loopw [5] (fun v wr=>∃ k:Nat,k<=n/\v=.int .i64 k/\wr.ownsRow 0 3 1 (.slice a n cp) n (rp (e5O m) k++xs.drop k)/\Off (Value.slice a n cp).ownBlock.toList w1 wr) (fun v _=>n-(intOf v).toNat)
 case atStart=>exact⟨0,Nat.zero_le _,rfl,by simpa[e6x] using HL1.out,Off.refl _ _⟩
 case round =>
  obtain⟨k,hk,rfl,hown,hof⟩:=hrel;have HO:=a0b (And.intro hown hof)
  by_cases hlt:k<n
  ·have hlt':(k:Int)<(n:Int):=by omega
   obtain⟨g,cap,u,e,c0,fz⟩:=d1o hown (k:=k) (by rw[List.length_append,d4O,List.length_drop];simp;omega);simp only[Value.slice.injEq,true_and] at e;obtain⟨rfl,rfl⟩:=e;have f0:=fz k;clear hown hof
   go_wp2_with fail
   go_roundw
   case rel =>
    refine⟨k+1,by omega,by go_num,?_,HO.out.2.setCell (.inl (by simp[Value.ownBlock])) _ _⟩;have:=d1L HO.out.1 (b:=g) rfl k (.int .i64 m);rw[g4s (by omega)] at this;exact this
   case measure=>simp[intOf];omega
  ·have hlt':¬ (k:Int)<(n:Int):=by omega
   have hkn:k=n:=by omega
   subst hkn
   have HR:Hid (wr.ownsRow 0 3 1 (.slice a k cp) k (rp (e5O m) k)):=by
    have:=HO.out.1;rw[List.drop_eq_nil_of_le (by omega),List.append_nil] at this;exact this
   clear hown hof
   go_upto_region 6 with fail
   change Code.wp _ _ _ _ (wr.alloc (.cells #[.slice a k cp,.slice none 0 0,.slice none 0 0,.slice none 0 0,.int .i64 m] tI))
   have S0:Hid (KS (e5O m) 3 wr (wr.alloc (.cells #[.slice a k cp,.slice none 0 0,.slice none 0 0,.slice none 0 0,.int .i64 m] tI)) (.slice a k cp) k wr.heap.size (.cells #[.slice a k cp,.slice none 0 0,.slice none 0 0,.slice none 0 0,.int .i64 m] tI)) :=
    ⟨HR.out.alloc _,a0p _ _,Nat.le_refl _,(Off.refl _ _).alloc _,fun b hb=>c7O HR.out hb⟩
   have T0:Hid (KF (e5O m) 3 wr (wr.alloc (.cells #[.slice a k cp,.slice none 0 0,.slice none 0 0,.slice none 0 0,.int .i64 m] tI)) (.slice a k cp) k wr.heap.size (.cells #[.slice a k cp,.slice none 0 0,.slice none 0 0,.slice none 0 0,.int .i64 m] tI) [(.slice a k cp,k)]) :=
    ⟨S0.out,fun p hp=>by
     rw[List.mem_singleton.1 hp]
     exact⟨Fu.of_own S0.out.own,fun b hb=>⟨by have:=S0.out.lt b hb;omega,c7O S0.out.own hb,.inl hb⟩⟩⟩
   clear S0;generalize wr.alloc (.cells #[.slice a k cp,.slice none 0 0,.slice none 0 0,.slice none 0 0,.int .i64 m] tI)=Z0 at T0 ⊢
   go_upto_region 7 with (first|(at_builtin;go_loud (refine d6c rfl _ _ 38 rfl (e5O m) 8 Tryz.underlying38 hi0 hz0 hz1 hz2 (by decide) rfl (by simp) (by simp[Value.oneCell']) T0.out.ks.own (m:=1) (cs:=#[.int .i64 m]) (by simp[rp]) (by decide) (by decide) rfl rfl (by omega) (zN _) ?_);intro g6 c6 w6 o6 ol6 f6 k6 at6;have q6:=d0h (T0.out.ks.at_ k6).1 1 rfl;have z6:=(T0.out.ks.at_ k6).2 1))
   have T1:=a0b (T0.out.put o6 ol6 f6 k6 at6 (by simp) 1);generalize w6.setCell ⟨wr.heap.size,1,none⟩ (.slice (some ⟨g6,0,none⟩) (k+1) c6)=Z1 at T1 ⊢;clear o6 ol6 f6 k6 at6 q6 z6 T0
   go_upto_region 8 with (first|(at_builtin;go_loud (refine d6c rfl _ _ 38 rfl (e5O m) 8 Tryz.underlying38 hi0 hz0 hz1 hz2 (by decide) rfl (by simp) (by simp[Value.oneCell']) T1.out.ks.own (m:=2) (cs:=#[.int .i64 m,.int .i64 m]) (by simp[rp]) (by decide) (by decide) rfl rfl (by omega) (zN _) ?_);intro g7 c7 w7 o7 ol7 f7 k7 at7;have q7:=d0h (T1.out.ks.at_ k7).1 2 rfl;have z7:=(T1.out.ks.at_ k7).2 2))
   have T2:=a0b (T1.out.put o7 ol7 f7 k7 at7 (by simp) 2);generalize w7.setCell ⟨wr.heap.size,2,none⟩ (.slice (some ⟨g7,0,none⟩) (k+2) c7)=Z2 at T2 ⊢;clear o7 ol7 f7 k7 at7 q7 z7 T1
   go_upto_region 9 with (first|(at_builtin;go_loud (refine d6c rfl _ _ 38 rfl (e5O m) 8 Tryz.underlying38 hi0 hz0 hz1 hz2 (by decide) rfl (by simp) (by simp[Value.oneCell']) T2.out.ks.own (m:=3) (cs:=#[.int .i64 m,.int .i64 m,.int .i64 m]) (by simp[rp]) (by decide) (by decide) rfl rfl (by omega) (zN _) ?_);intro g8 c8 w8 o8 ol8 f8 k8 at8;have q8:=d0h (T2.out.ks.at_ k8).1 3 rfl;have z8:=(T2.out.ks.at_ k8).2 3))
   have T3:=a0b (T2.out.put o8 ol8 f8 k8 at8 (by simp) 3);generalize w8.setCell ⟨wr.heap.size,3,none⟩ (.slice (some ⟨g8,0,none⟩) (k+3) c8)=Z3 at T3 ⊢;clear o8 ol8 f8 k8 at8 q8 z8 T2;have R3:Off (Value.slice a k cp).ownBlock.toList w Z3:=(Off.of_below H1.out).trans (HO.out.2.trans T3.out.ks.off);have HLK:=a0b (fun b (hb:b∈(Value.slice a k cp).ownBlock.toList)=>HK.out b (by simpa using hb));have B3:=a0b (HB.out.off R3 (fun b hb e=>(HLK.out b e).2 hb) (fun b hb e=>(HLK.out b e).1 hb));have HR3:=a0b R3;obtain⟨_,_,d2,_,_,fzB⟩:=B3.out.cells;obtain⟨⟨ra,rc,er⟩,_,_⟩:=B3.out.forms;subst er;have fB:=fzB 2;have s0:=d0h T3.out.ks.hq 0 rfl;have s1:=d0h T3.out.ks.hq 1 rfl;have s2:=d0h T3.out.ks.hq 2 rfl;have s3:=d0h T3.out.ks.hq 3 rfl;have s4:=d0h T3.out.ks.hq 4 rfl;have d2A:∀ o,(Z3.alloc o).cell? ⟨B,2,none⟩=some (.slice ra X1.length rc):=fun o=>a0a ((zr _ Z3).alloc (zq _) o) d2
   have DD:=a0b (fun o=>a1g B3.out.br.b1.own (((zr _ Z3).alloc (zq _) o).drew));have hBr:(Value.slice ra X1.length rc).ownBlock≠some B:=c8L B3.out.br.b1.own B3.out.hb (by decide);clear R3 fzB
   go_region_law (first
    |(refine step_append_lies _ rfl _ _ 80 rfl 0 tI j0 _ 5 104 Tryz.underlying80 hj0 jz0 jz1 jz2 rfl (by decide) (.slice ra X1.length rc) X1.length (X1.flatMap klV) rfl (DD.out _) ⟨Z3.heap.size,0,none⟩ 1 1 (klV (.slice a k cp,.slice (some ⟨g6,0,none⟩) (k+1) c6,.slice (some ⟨g7,0,none⟩) (k+2) c7,.slice (some ⟨g8,0,none⟩) (k+3) c8,m)) rfl rfl (World.news_of_block (cs:=(klV (.slice a k cp,.slice (some ⟨g6,0,none⟩) (k+1) c6,.slice (some ⟨g7,0,none⟩) (k+2) c7,.slice (some ⟨g8,0,none⟩) (k+3) c8,m)).toArray) (a0p Z3 _)) (by simp[klV,Value.oneCell']) (by omega) (by unfold maxLen;omega) (by omega) (zN _) (Z3.heap.size+1) (by simp) ?_;intro g9 c9 w9 o9 hgrow at9 hlt9;have k9:Off ((Value.slice ra X1.length rc).ownBlock.toList) Z3 w9:=Off.grown (((Off.refl _ Z3).alloc _).drew) hgrow (fun k hk=>.inl (by simp[hk]));have d9:=k9.cell (fun e=>hBr (by simpa using e)) d2;have f9:=(k9.frozen (fun e=>hBr (by simpa using e)) (World.block_lt_of_cell? _ _ d2)).trans fB))
   all_goals
    go_wp2_with fail
    (try simp only[Exit.inBlock,Exit.then]);refine bodyPost_end (results_none rfl _ _ _) rfl ?_
    refine⟨rfl,HB.out.kept1 B3.out T3.out hn HR3.out (Nat.le_trans H1.out.size HO.out.2.size) HK.out k9 o9 (fun b hb=>by
     simp[Value.ownBlock] at hb;subst hb
     exact at9.imp id (fun e=>by omega))⟩
def f9F(n:Int):ByteArray:=if n=1 then ⟨#[100,97,105,108,121]⟩ else if n=2 then ⟨#[119,101,101,107,108,121]⟩ else ⟨#[109,111,110,116,104,108,121]⟩
def ruL(r:Rd.a0Y):Array Value:=#[.string (f9F r.pc),.int .i64 r.ev,.bool (isd r.acc 0),.bool (isd r.acc 1),.bool (isd r.acc 2),.bool (isd r.acc 3),.bool (isd r.acc 4),.bool (isd r.acc 5),.bool (isd r.acc 6),.int .i64 r.fr,.int .i64 r.mn,.int .i64 r.mi,.int .i64 r.ti,.int .i64 r.un]
def ruR(r:Rd.a0Y):Value:=.agg (ruL r)
theorem h6n(x n:Int):(x.tmod n==0)=decide (x % n=0):=by
 rw[Bool.eq_iff_iff,beq_iff_eq,decide_eq_true_eq,<- Int.dvd_iff_tmod_eq_zero,Int.dvd_iff_emod_eq_zero]
def ruB(r:Rd.a0Y):Obj:=.cells (ruL r) 273
theorem ruC{r:Rd.a0Y}(h:W.heap[Q]?=some (ruB r)):(W.cell? ⟨Q,0,none⟩=some (.string (f9F r.pc))/\W.cell? ⟨Q,1,none⟩=some (.int .i64 r.ev)/\W.cell? ⟨Q,9,none⟩=some (.int .i64 r.fr)/\W.cell? ⟨Q,10,none⟩=some (.int .i64 r.mn)/\W.cell? ⟨Q,11,none⟩=some (.int .i64 r.mi)/\W.cell? ⟨Q,12,none⟩=some (.int .i64 r.ti)/\W.cell? ⟨Q,13,none⟩=some (.int .i64 r.un))/\∀ j,j<7->W.cell? ⟨Q,2+j,none⟩=some (.bool (isd r.acc j)):=by
 refine⟨⟨d0h h 0 rfl,d0h h 1 rfl,d0h h 9 rfl,d0h h 10 rfl,d0h h 11 rfl,d0h h 12 rfl,d0h h 13 rfl⟩,fun j hj=>?_⟩;rcases (show j=0\/j=1\/j=2\/j=3\/j=4\/j=5\/j=6 by omega) with rfl|rfl|rfl|rfl|rfl|rfl|rfl
 all_goals exact d0h h _ rfl
theorem h1G(r:Rd.a0Y)(hf:Rd.a6s r)(d:Int)(h0:r.fr<=d)(h1:d<728)(w:World):
  Calls Tryz.prog 239 #[ruR r,.int .i64 d] w fun e w'=>e=.returned (.bool (Rd.has r d))/\Below w.heap.size w w':=by
 have f0:=hf.f0;have e1:=hf.e1;have e2:=hf.e2;have f1:=hf.f1;have hz:(r.ev==0)=false:=by rw[beq_eq_false_iff_ne];omega
 have BX:=a0b (And.intro ((zr _ w).alloc (zq _) (ruB r)) (a0p w (ruB r)));have hpc:r.pc=1\/r.pc=2\/r.pc=3:=by have:=hf.pc1;have:=hf.pc3;omega
 have tmb:∀ x:Int,0<=x->0<=x % r.ev/\x % r.ev<100:=fun x _=>⟨Int.emod_nonneg _ (by omega),Int.lt_of_lt_of_le (Int.emod_lt_of_pos _ (by omega)) (by omega)⟩
 rcases hpc with hp|hp|hp
 ·have e:Rd.has r d=((d-r.fr) % r.ev==0):=by unfold Rd.has;rw[if_pos hp];rfl
  have w1:IntKind.i64.wrap (d-r.fr)=d-r.fr:=a0i (by omega) (by omega);have tb:=tmb (d-r.fr) (by omega);have w2:IntKind.i64.wrap ((d-r.fr) % r.ev)=(d-r.fr) % r.ev:=a0i (by omega) (by omega);rw[e];have HP:Hid (f9F r.pc=⟨#[100,97,105,108,121]⟩):=by rw[Hid,hp];rfl
  clear hp;simp only[ruR,ruL]
  go_enter Tryz.func239,Tryz.ntmps239
  go_upto_region 1 with fail
  change Code.wp _ _ _ _ (w.alloc (ruB r));obtain⟨⟨c0,c1,c9,_⟩,_⟩:=ruC BX.out.2;rw[HP.out] at c0;generalize w.alloc (ruB r)=W at *;clear tb e tmb
  go_wp2_with fail
  go_ret;exact⟨rfl,BX.out.1⟩
 ·obtain⟨j,hj⟩:∃ j:Nat,d % 7=j:=⟨(d % 7).toNat,by omega⟩;have hj7:j<7:=by omega
  obtain⟨bj,hbj⟩:∃ b,isd r.acc j=b:=⟨_,rfl⟩;have e:Rd.has r d=(bj && ((d / 7-r.fr / 7) % r.ev==0)):=by unfold Rd.has;rw[if_neg (by omega),if_pos hp,hj,hbj];rfl
  have q1:d.tmod 7=j:=by rw[Int.tmod_eq_emod_of_nonneg (by omega)];exact hj
  have q2:d.tdiv 7=d / 7:=Int.tdiv_eq_ediv_of_nonneg (by omega);have q3:r.fr.tdiv 7=r.fr / 7:=Int.tdiv_eq_ediv_of_nonneg f0;have w0:IntKind.i64.wrap (j:Int)=j:=a0i (by omega) (by omega);have w1:IntKind.i64.wrap (d / 7)=d / 7:=a0i (by omega) (by omega);have w2:IntKind.i64.wrap (r.fr / 7)=r.fr / 7:=a0i (by omega) (by omega);have w3:IntKind.i64.wrap (d / 7-r.fr / 7)=d / 7-r.fr / 7:=a0i (by omega) (by omega);have tb:=tmb (d / 7-r.fr / 7) (by omega);have w4:IntKind.i64.wrap ((d / 7-r.fr / 7) % r.ev)=(d / 7-r.fr / 7) % r.ev:=a0i (by omega) (by omega);have hi0:¬ (j:Int)<0:=by omega
  have hi7:(j:Int)<7:=by omega
  have HP:Hid (f9F r.pc=⟨#[119,101,101,107,108,121]⟩):=by rw[Hid,hp];rfl
  clear hp tb tmb hj;simp only[ruR,ruL]
  cases bj
  all_goals
   simp only[Bool.false_and,Bool.true_and] at e;rw[e]
   go_enter Tryz.func239,Tryz.ntmps239
   go_upto_region 1 with fail
   change Code.wp _ _ _ _ (w.alloc (ruB r));obtain⟨⟨c0,c1,c9,_⟩,cJ⟩:=ruC BX.out.2;rw[HP.out] at c0;have cj:=cJ j hj7;clear cJ;rw[hbj] at cj;generalize w.alloc (ruB r)=W at *;clear e hbj
   go_wp2_with fail
   go_ret;exact⟨rfl,BX.out.1⟩
 ·obtain⟨_,_,y1,y2⟩:=Rd.a6c (x:=d) (by omega) h1;obtain⟨_,_,z1,z2⟩:=Rd.a6c f0 f1
  have e:Rd.has r d=((Cal.dT r.fr==Cal.dT d) && ((12*Cal.yT d+Cal.mT d-12*Cal.yT r.fr-Cal.mT r.fr).tmod r.ev==0)):=by
   rw[h6n];unfold Rd.has;rw[if_neg (by omega),if_neg (by omega)]
   congr 1
   rw[Bool.eq_iff_iff,decide_eq_true_eq,beq_iff_eq];exact eq_comm
  have D1:=a0b (fun W=>f1n r.fr W (by omega) (by omega));have D2:=a0b (fun W=>f1n d W (by omega) (by omega));rw[e];clear e;obtain⟨m1,m2⟩:1<=Cal.mT d/\Cal.mT d<=12:=by have:=(Cal.c6G d (by omega) (by omega)).1;exact⟨((Cal.a2K _ _ _).1 this).2.2.1,((Cal.a2K _ _ _).1 this).2.2.2.1⟩
  obtain⟨m3,m4⟩:1<=Cal.mT r.fr/\Cal.mT r.fr<=12:=by have:=(Cal.c6G r.fr (by omega) (by omega)).1;exact⟨((Cal.a2K _ _ _).1 this).2.2.1,((Cal.a2K _ _ _).1 this).2.2.2.1⟩
  generalize Cal.yT d=yd at *;generalize Cal.mT d=md at *;generalize Cal.dT d=dd at *;generalize Cal.yT r.fr=yf at *;generalize Cal.mT r.fr=mf at *;generalize Cal.dT r.fr=df at *;have w1:IntKind.i64.wrap (12*yd)=12*yd:=a0i (by omega) (by omega);have w2:IntKind.i64.wrap (12*yd+md)=12*yd+md:=a0i (by omega) (by omega);have w3:IntKind.i64.wrap (12*yf)=12*yf:=a0i (by omega) (by omega);have w4:IntKind.i64.wrap (12*yd+md-12*yf)=12*yd+md-12*yf:=a0i (by omega) (by omega);have w5:IntKind.i64.wrap (12*yd+md-12*yf-mf)=12*yd+md-12*yf-mf:=a0i (by omega) (by omega)
  have w6:IntKind.i64.wrap ((12*yd+md-12*yf-mf).tmod r.ev)=(12*yd+md-12*yf-mf).tmod r.ev:=by
   have h1:=Int.tmod_lt_of_pos (12*yd+md-12*yf-mf) (show 0<r.ev by omega);have h2:=Int.lt_tmod_of_pos (12*yd+md-12*yf-mf) (show 0<r.ev by omega);exact a0i (by omega) (by omega)
  generalize hx:12*yd+md-12*yf-mf=x at *;have HP:Hid (f9F r.pc=⟨#[109,111,110,116,104,108,121]⟩):=by rw[Hid,hp];rfl
  clear hp;simp only[ruR,ruL]
  cases hd:df==dd
  all_goals
   simp only[Bool.false_and,Bool.true_and]
   go_enter Tryz.func239,Tryz.ntmps239
   go_upto_region 1 with fail
   change Code.wp _ _ _ _ (w.alloc (ruB r));obtain⟨⟨c0,c1,c9,_⟩,_⟩:=ruC BX.out.2;rw[HP.out] at c0;generalize w.alloc (ruB r)=W at *
   go_upto_region 7 with (first|(go_at_call 73;refine (D1.out _).mono ?_;rintro e w1 ⟨rfl,rfl⟩))
   go_upto_region 8 with (first|(go_at_call 73;refine (D2.out _).mono ?_;rintro e w1 ⟨rfl,rfl⟩))
   go_wp2_with fail
   go_ret;exact⟨rfl,BX.out.1⟩
def ruW(ws:Nat->ByteArray)(i k:Nat)(pc:Int)(acc:List Int)(tm:Bool):Rd.a0Y:=⟨pc,b4g (ws (i+1)) 1 7,acc,g2R (ws (k+1)),c5N (ws (k+3)),b4g (ws (k+5)) 1 7,if tm then b4g (ws (k+7)) 1 7 else 0,if tm then 0 else g2R (ws (k+7))⟩
structure h4y(ws:Nat->ByteArray)(i k:Nat)(pc:Int)(acc:List Int)(tm:Bool):Prop where
 hp:ws i=f9F pc
 h3:pc=1\/pc=2\/pc=3
 hk:(pc=2/\k=i+2+1/\Txt.onB (ws (i+2))=true/\Txt.onW (ws (i+2))=some acc)\/(pc≠2/\k=i+2/\acc=[])
 ht:((ws (k+6)).toList==[116,105,109,101,115])=tm
inductive e2P (ws:List ByteArray):List ByteArray->Desk.a7U->Prop where
 |a0k:e2P ws [a3F,c8r,c8Z] (.a0k (ws.getD 1 ByteArray.empty) (b4g (ws.getD 2 ByteArray.empty) 1 7))
 |book:e2P ws [a9P,c8r,c8Z,c7X,c7X] (.enter 1 (ws.getD 1 ByteArray.empty) (b4g (ws.getD 2 ByteArray.empty) 1 7) (g2T (ws.getD 3 ByteArray.empty)) (g2T (ws.getD 4 ByteArray.empty)) 0)
 |hold:e2P ws [b5f,c8r,c8Z,c7X,c7X,c8M] (.enter 2 (ws.getD 1 ByteArray.empty) (b4g (ws.getD 2 ByteArray.empty) 1 7) (g2T (ws.getD 3 ByteArray.empty)) (g2T (ws.getD 4 ByteArray.empty)) (b4g (ws.getD 5 ByteArray.empty) 1 7))
 |wait:e2P ws [b4k,c8r,c8Z,c7X,c7X,c8M] (.enter 3 (ws.getD 1 ByteArray.empty) (b4g (ws.getD 2 ByteArray.empty) 1 7) (g2T (ws.getD 3 ByteArray.empty)) (g2T (ws.getD 4 ByteArray.empty)) (b4g (ws.getD 5 ByteArray.empty) 1 7))
 |confirm:e2P ws [a4z,idY] (.confirm (b4g (ws.getD 1 ByteArray.empty) 1 7))
 |cancel:e2P ws [a6m,idY] (.cancel (b4g (ws.getD 1 ByteArray.empty) 1 7))
 |list0:e2P ws [a5Q,c8r] (.list (ws.getD 1 ByteArray.empty) 0 1048320)
 |list1:e2P ws [a5Q,c8r,c7X,c7X] (.list (ws.getD 1 ByteArray.empty) (g2T (ws.getD 2 ByteArray.empty)) (g2T (ws.getD 3 ByteArray.empty)))
 |peak:e2P ws [a9a,c8r,c7X,c7X] (.peak (ws.getD 1 ByteArray.empty) (g2T (ws.getD 2 ByteArray.empty)) (g2T (ws.getD 3 ByteArray.empty)))
 |find:e2P ws [b5h,c8r,c8Z,c8M,c7X,c7X] (.find (ws.getD 1 ByteArray.empty) (b4g (ws.getD 2 ByteArray.empty) 1 7) (b4g (ws.getD 3 ByteArray.empty) 1 7) (g2T (ws.getD 4 ByteArray.empty)) (g2T (ws.getD 5 ByteArray.empty)))
 |tick:e2P ws [b4n,c8M] (.tick (b4g (ws.getD 1 ByteArray.empty) 1 7))
 |waiting:e2P ws [a5q] .waiting
 |clock:e2P ws [b1c] .clock
 |series {K E:List ByteArray}{k:Nat}{pc:Int}{acc:List Int}{tm:Bool}(hr:h4y (ws.getD · ByteArray.empty) 3 k pc acc tm) (hn:k+7<(g4M++K++g4X++E).length):e2P ws (g4M++K++g4X++E) (.series (ws.getD 1 ByteArray.empty) (b4g (ws.getD 2 ByteArray.empty) 1 7) (ruW (ws.getD · ByteArray.empty) 3 k pc acc tm))
 |expand {K E:List ByteArray}{k:Nat}{pc:Int}{acc:List Int}{tm:Bool}(hr:h4y (ws.getD · ByteArray.empty) 1 k pc acc tm) (hn:k+7<(g4Z++K++g4X++E).length):e2P ws (g4Z++K++g4X++E) (.expand (ruW (ws.getD · ByteArray.empty) 1 k pc acc tm))
def g0a(s:ByteArray)(v:Value)(st:Nat × Bool):Prop:=f2K s st/\(st.2=false->a1b (Txt.a1v s).length st.1 st.2=false->∃ q l,Full s q/\e2P (Txt.a1v s) q l/\LV v l/\Desk.a1O l)
theorem d6S(h:a0n x=true):g2T x=a1J x:=by unfold g2T a1J;rw[if_pos h,if_pos h]
theorem g4i(h:unB x=true):b4g x 1 7=nvF x:=f4T (d9V h).1
theorem g4W(h:miB x=true):b4g x 1 7=nvF x:=f4T (d9V h).1
theorem d4u{k:ByteArray}{q:List ByteArray}(h:isB (Txt.a1v s) 0 false k=true)(hf:e1B.filter (e7c k)=[q])(hst:a0M (Txt.a1v s) (q.map g2B) (0,false)=st):f2K s st/\(st.2=false->a1b (Txt.a1v s).length st.1 st.2=false->Full s q) :=
 ⟨e6O h hf (f3r hst),e7e h hf (f3r hst) hst⟩
theorem f1s{q0:ByteArray}{R:List ByteArray}(hF:Full s (q0 :: c8r :: R)):((Txt.a1v s).getD 1 ByteArray.empty).size<=1000:=by
 have h:=e9L [] hF.all;rw[d9O] at h;exact a4o h
theorem f3k(h:isB (Txt.a1v s) 0 false a3F=true):g0a s (.iface 149 (.agg #[.string (a2F (Txt.a1v s) (1,false)),.int .i64 (a0v (Txt.a1v s) (a0M (Txt.a1v s) [nmB] (1,false)) unB nvF)])) (a0M (Txt.a1v s) [nmB,unB] (1,false)):=by
 have hk:d1Z a3F=true:=by decide +kernel
 have K:=d4u (q:=[a3F,c8r,c8Z]) h (by decide +kernel) (by rw[<- st1 h hk]);simp only[List.map,d9O,f5O] at K;refine⟨K.1,fun h2 hm=>⟨_,_,K.2 h2 hm,.a0k,?_⟩⟩;have hF:=K.2 h2 hm;have v1:=f0D (Q:=[c8r]) (s:=c8Z) (R:=[]) h hk hF.all nvF;have f1:=e9L [c8r] (s:=c8Z) (R:=[]) hF.all;simp only[List.map,List.length,d9O,f5O] at v1 f1;rw[f1t hF.all,v1,g4i f1];exact⟨.a0k _ (f1s hF) _,b7G f1⟩
theorem f9J(h:isB (Txt.a1v s) 0 false a9P=true):g0a s (.iface 154 (.agg #[.string (a2F (Txt.a1v s) (1,false)),.int .i64 (a0v (Txt.a1v s) (a0M (Txt.a1v s) [nmB] (1,false)) unB nvF),.int .i64 (a0v (Txt.a1v s) (a0M (Txt.a1v s) [nmB,unB] (1,false)) a0n a1J),.int .i64 (a0v (Txt.a1v s) (a0M (Txt.a1v s) [nmB,unB,a0n] (1,false)) a0n a1J)])) (a0M (Txt.a1v s) [nmB,unB,a0n,a0n] (1,false)):=by
 have hk:d1Z a9P=true:=by decide +kernel
 have K:=d4u (q:=[a9P,c8r,c8Z,c7X,c7X]) h (by decide +kernel) (by rw[<- st1 h hk]);simp only[List.map,d9O,f5O,f2N] at K;refine⟨K.1,fun h2 hm=>⟨_,_,K.2 h2 hm,.book,?_⟩⟩;have hF:=K.2 h2 hm;have v1:=f0D (Q:=[c8r]) (s:=c8Z) (R:=[c7X,c7X]) h hk hF.all nvF;have f1:=e9L [c8r] (s:=c8Z) (R:=[c7X,c7X]) hF.all;simp only[List.map,List.length,d9O,f5O] at v1 f1;have v2:=f0D (Q:=[c8r,c8Z]) (s:=c7X) (R:=[c7X]) h hk hF.all a1J;have f2:=e9L [c8r,c8Z] (s:=c7X) (R:=[c7X]) hF.all;simp only[List.map,List.length,d9O,f5O,f2N] at v2 f2;have v3:=f0D (Q:=[c8r,c8Z,c7X]) (s:=c7X) (R:=[]) h hk hF.all a1J;have f3:=e9L [c8r,c8Z,c7X] (s:=c7X) (R:=[]) hF.all;simp only[List.map,List.length,d9O,f5O,f2N] at v3 f3;rw[f1t hF.all,v1,v2,v3,g4i f1,d6S f2,d6S f3];exact⟨.book _ (f1s hF) _ _ _,⟨.inl ⟨rfl,rfl⟩,(b7G f1).1,(b7G f1).2,(a2Y f2).1,(a2Y f2).2,(a2Y f3).1,(a2Y f3).2⟩⟩
theorem h3J(h:isB (Txt.a1v s) 0 false b5f=true):g0a s (.iface 156 (.agg #[.string (a2F (Txt.a1v s) (1,false)),.int .i64 (a0v (Txt.a1v s) (a0M (Txt.a1v s) [nmB] (1,false)) unB nvF),.int .i64 (a0v (Txt.a1v s) (a0M (Txt.a1v s) [nmB,unB] (1,false)) a0n a1J),.int .i64 (a0v (Txt.a1v s) (a0M (Txt.a1v s) [nmB,unB,a0n] (1,false)) a0n a1J),.int .i64 (a0v (Txt.a1v s) (a0M (Txt.a1v s) [nmB,unB,a0n,a0n] (1,false)) miB nvF)])) (a0M (Txt.a1v s) [nmB,unB,a0n,a0n,miB] (1,false)):=by
 have hk:d1Z b5f=true:=by decide +kernel
 have K:=d4u (q:=[b5f,c8r,c8Z,c7X,c7X,c8M]) h (by decide +kernel) (by rw[<- st1 h hk]);simp only[List.map,d9O,f5O,f2N,f9f] at K;refine⟨K.1,fun h2 hm=>⟨_,_,K.2 h2 hm,.hold,?_⟩⟩;have hF:=K.2 h2 hm;have v1:=f0D (Q:=[c8r]) (s:=c8Z) (R:=[c7X,c7X,c8M]) h hk hF.all nvF;have f1:=e9L [c8r] (s:=c8Z) (R:=[c7X,c7X,c8M]) hF.all;simp only[List.map,List.length,d9O,f5O] at v1 f1;have v2:=f0D (Q:=[c8r,c8Z]) (s:=c7X) (R:=[c7X,c8M]) h hk hF.all a1J;have f2:=e9L [c8r,c8Z] (s:=c7X) (R:=[c7X,c8M]) hF.all;simp only[List.map,List.length,d9O,f5O,f2N] at v2 f2;have v3:=f0D (Q:=[c8r,c8Z,c7X]) (s:=c7X) (R:=[c8M]) h hk hF.all a1J;have f3:=e9L [c8r,c8Z,c7X] (s:=c7X) (R:=[c8M]) hF.all;simp only[List.map,List.length,d9O,f5O,f2N] at v3 f3;have v4:=f0D (Q:=[c8r,c8Z,c7X,c7X]) (s:=c8M) (R:=[]) h hk hF.all nvF;have f4:=e9L [c8r,c8Z,c7X,c7X] (s:=c8M) (R:=[]) hF.all;simp only[List.map,List.length,d9O,f5O,f2N,f9f] at v4 f4;rw[f1t hF.all,v1,v2,v3,v4,g4i f1,d6S f2,d6S f3,g4W f4];exact⟨.hold _ (f1s hF) _ _ _ _,⟨.inr ⟨.inl rfl,c0p f4⟩,(b7G f1).1,(b7G f1).2,(a2Y f2).1,(a2Y f2).2,(a2Y f3).1,(a2Y f3).2⟩⟩
theorem h4o(h:isB (Txt.a1v s) 0 false b4k=true):g0a s (.iface 157 (.agg #[.string (a2F (Txt.a1v s) (1,false)),.int .i64 (a0v (Txt.a1v s) (a0M (Txt.a1v s) [nmB] (1,false)) unB nvF),.int .i64 (a0v (Txt.a1v s) (a0M (Txt.a1v s) [nmB,unB] (1,false)) a0n a1J),.int .i64 (a0v (Txt.a1v s) (a0M (Txt.a1v s) [nmB,unB,a0n] (1,false)) a0n a1J),.int .i64 (a0v (Txt.a1v s) (a0M (Txt.a1v s) [nmB,unB,a0n,a0n] (1,false)) miB nvF)])) (a0M (Txt.a1v s) [nmB,unB,a0n,a0n,miB] (1,false)):=by
 have hk:d1Z b4k=true:=by decide +kernel
 have K:=d4u (q:=[b4k,c8r,c8Z,c7X,c7X,c8M]) h (by decide +kernel) (by rw[<- st1 h hk]);simp only[List.map,d9O,f5O,f2N,f9f] at K;refine⟨K.1,fun h2 hm=>⟨_,_,K.2 h2 hm,.wait,?_⟩⟩;have hF:=K.2 h2 hm;have v1:=f0D (Q:=[c8r]) (s:=c8Z) (R:=[c7X,c7X,c8M]) h hk hF.all nvF;have f1:=e9L [c8r] (s:=c8Z) (R:=[c7X,c7X,c8M]) hF.all;simp only[List.map,List.length,d9O,f5O] at v1 f1;have v2:=f0D (Q:=[c8r,c8Z]) (s:=c7X) (R:=[c7X,c8M]) h hk hF.all a1J;have f2:=e9L [c8r,c8Z] (s:=c7X) (R:=[c7X,c8M]) hF.all;simp only[List.map,List.length,d9O,f5O,f2N] at v2 f2;have v3:=f0D (Q:=[c8r,c8Z,c7X]) (s:=c7X) (R:=[c8M]) h hk hF.all a1J;have f3:=e9L [c8r,c8Z,c7X] (s:=c7X) (R:=[c8M]) hF.all;simp only[List.map,List.length,d9O,f5O,f2N] at v3 f3;have v4:=f0D (Q:=[c8r,c8Z,c7X,c7X]) (s:=c8M) (R:=[]) h hk hF.all nvF;have f4:=e9L [c8r,c8Z,c7X,c7X] (s:=c8M) (R:=[]) hF.all;simp only[List.map,List.length,d9O,f5O,f2N,f9f] at v4 f4;rw[f1t hF.all,v1,v2,v3,v4,g4i f1,d6S f2,d6S f3,g4W f4];exact⟨.wait _ (f1s hF) _ _ _ _,⟨.inr ⟨.inr rfl,c0p f4⟩,(b7G f1).1,(b7G f1).2,(a2Y f2).1,(a2Y f2).2,(a2Y f3).1,(a2Y f3).2⟩⟩
theorem g3t(h:isB (Txt.a1v s) 0 false a4z=true):g0a s (.iface 167 (.agg #[.int .i64 (a0v (Txt.a1v s) (1,false) idB nvF)])) (a0M (Txt.a1v s) [idB] (1,false)):=by
 have hk:d1Z a4z=true:=by decide +kernel
 have K:=d4u (q:=[a4z,idY]) h (by decide +kernel) (by rw[<- st1 h hk]);simp only[List.map,g4J] at K;refine⟨K.1,fun h2 hm=>⟨_,_,K.2 h2 hm,.confirm,?_⟩⟩;have hF:=K.2 h2 hm;have v0:=f0D (Q:=[]) (s:=idY) (R:=[]) h hk hF.all nvF;have f0:=e9L [] (s:=idY) (R:=[]) hF.all;simp only[List.map,List.length,a6y,g4J] at v0 f0;rw[v0,f4T f0];exact⟨.confirm _,c6p _⟩
theorem f2y(h:isB (Txt.a1v s) 0 false a6m=true):g0a s (.iface 168 (.agg #[.int .i64 (a0v (Txt.a1v s) (1,false) idB nvF)])) (a0M (Txt.a1v s) [idB] (1,false)):=by
 have hk:d1Z a6m=true:=by decide +kernel
 have K:=d4u (q:=[a6m,idY]) h (by decide +kernel) (by rw[<- st1 h hk]);simp only[List.map,g4J] at K;refine⟨K.1,fun h2 hm=>⟨_,_,K.2 h2 hm,.cancel,?_⟩⟩;have hF:=K.2 h2 hm;have v0:=f0D (Q:=[]) (s:=idY) (R:=[]) h hk hF.all nvF;have f0:=e9L [] (s:=idY) (R:=[]) hF.all;simp only[List.map,List.length,a6y,g4J] at v0 f0;rw[v0,f4T f0];exact⟨.cancel _,c6p _⟩
theorem f8w(h:isB (Txt.a1v s) 0 false a9a=true):g0a s (.iface 176 (.agg #[.string (a2F (Txt.a1v s) (1,false)),.int .i64 (a0v (Txt.a1v s) (a0M (Txt.a1v s) [nmB] (1,false)) a0n a1J),.int .i64 (a0v (Txt.a1v s) (a0M (Txt.a1v s) [nmB,a0n] (1,false)) a0n a1J)])) (a0M (Txt.a1v s) [nmB,a0n,a0n] (1,false)):=by
 have hk:d1Z a9a=true:=by decide +kernel
 have K:=d4u (q:=[a9a,c8r,c7X,c7X]) h (by decide +kernel) (by rw[<- st1 h hk]);simp only[List.map,d9O,f2N] at K;refine⟨K.1,fun h2 hm=>⟨_,_,K.2 h2 hm,.peak,?_⟩⟩;have hF:=K.2 h2 hm;have v1:=f0D (Q:=[c8r]) (s:=c7X) (R:=[c7X]) h hk hF.all a1J;have f1:=e9L [c8r] (s:=c7X) (R:=[c7X]) hF.all;simp only[List.map,List.length,d9O,f2N] at v1 f1;have v2:=f0D (Q:=[c8r,c7X]) (s:=c7X) (R:=[]) h hk hF.all a1J;have f2:=e9L [c8r,c7X] (s:=c7X) (R:=[]) hF.all;simp only[List.map,List.length,d9O,f2N] at v2 f2;rw[f1t hF.all,v1,v2,d6S f1,d6S f2];exact⟨.peak _ (f1s hF) _ _,⟨(a2Y f1).1,(a2Y f1).2,(a2Y f2).1,(a2Y f2).2⟩⟩
theorem f9g(h:isB (Txt.a1v s) 0 false b5h=true):g0a s (.iface 178 (.agg #[.string (a2F (Txt.a1v s) (1,false)),.int .i64 (a0v (Txt.a1v s) (a0M (Txt.a1v s) [nmB] (1,false)) unB nvF),.int .i64 (a0v (Txt.a1v s) (a0M (Txt.a1v s) [nmB,unB] (1,false)) miB nvF),.int .i64 (a0v (Txt.a1v s) (a0M (Txt.a1v s) [nmB,unB,miB] (1,false)) a0n a1J),.int .i64 (a0v (Txt.a1v s) (a0M (Txt.a1v s) [nmB,unB,miB,a0n] (1,false)) a0n a1J)])) (a0M (Txt.a1v s) [nmB,unB,miB,a0n,a0n] (1,false)):=by
 have hk:d1Z b5h=true:=by decide +kernel
 have K:=d4u (q:=[b5h,c8r,c8Z,c8M,c7X,c7X]) h (by decide +kernel) (by rw[<- st1 h hk]);simp only[List.map,d9O,f5O,f9f,f2N] at K;refine⟨K.1,fun h2 hm=>⟨_,_,K.2 h2 hm,.find,?_⟩⟩;have hF:=K.2 h2 hm;have v1:=f0D (Q:=[c8r]) (s:=c8Z) (R:=[c8M,c7X,c7X]) h hk hF.all nvF;have f1:=e9L [c8r] (s:=c8Z) (R:=[c8M,c7X,c7X]) hF.all;simp only[List.map,List.length,d9O,f5O] at v1 f1;have v2:=f0D (Q:=[c8r,c8Z]) (s:=c8M) (R:=[c7X,c7X]) h hk hF.all nvF;have f2:=e9L [c8r,c8Z] (s:=c8M) (R:=[c7X,c7X]) hF.all;simp only[List.map,List.length,d9O,f5O,f9f] at v2 f2;have v3:=f0D (Q:=[c8r,c8Z,c8M]) (s:=c7X) (R:=[c7X]) h hk hF.all a1J;have f3:=e9L [c8r,c8Z,c8M] (s:=c7X) (R:=[c7X]) hF.all;simp only[List.map,List.length,d9O,f5O,f9f,f2N] at v3 f3;have v4:=f0D (Q:=[c8r,c8Z,c8M,c7X]) (s:=c7X) (R:=[]) h hk hF.all a1J;have f4:=e9L [c8r,c8Z,c8M,c7X] (s:=c7X) (R:=[]) hF.all;simp only[List.map,List.length,d9O,f5O,f9f,f2N] at v4 f4;rw[f1t hF.all,v1,v2,v3,v4,g4i f1,g4W f2,d6S f3,d6S f4];exact⟨.find _ (f1s hF) _ _ _ _,⟨(b7G f1).1,(b7G f1).2,(c0p f2).1,(c0p f2).2,(a2Y f3).1,(a2Y f3).2,(a2Y f4).1,(a2Y f4).2⟩⟩
theorem h2h(h:isB (Txt.a1v s) 0 false b4n=true):g0a s (.iface 182 (.agg #[.int .i64 (a0v (Txt.a1v s) (1,false) miB nvF)])) (a0M (Txt.a1v s) [miB] (1,false)):=by
 have hk:d1Z b4n=true:=by decide +kernel
 have K:=d4u (q:=[b4n,c8M]) h (by decide +kernel) (by rw[<- st1 h hk]);simp only[List.map,f9f] at K;refine⟨K.1,fun h2 hm=>⟨_,_,K.2 h2 hm,.tick,?_⟩⟩;have hF:=K.2 h2 hm;have v0:=f0D (Q:=[]) (s:=c8M) (R:=[]) h hk hF.all nvF;have f0:=e9L [] (s:=c8M) (R:=[]) hF.all;simp only[List.map,List.length,a6y,f9f] at v0 f0;rw[v0,g4W f0];exact⟨.tick _,c0p f0⟩
theorem g3z(h:isB (Txt.a1v s) 0 false a5q=true):g0a s (.iface 173 (.agg #[])) (1,false):=by
 have hk:d1Z a5q=true:=by decide +kernel
 have K:=d4u (q:=[a5q]) h (by decide +kernel) (by rw[<- st1 h hk]);refine⟨K.1,fun h2 hm=>⟨_,_,K.2 h2 hm,.waiting,?_⟩⟩;exact⟨.waiting,trivial⟩
theorem f6s(h:isB (Txt.a1v s) 0 false b1c=true):g0a s (.iface 183 (.agg #[])) (1,false):=by
 have hk:d1Z b1c=true:=by decide +kernel
 have K:=d4u (q:=[b1c]) h (by decide +kernel) (by rw[<- st1 h hk]);refine⟨K.1,fun h2 hm=>⟨_,_,K.2 h2 hm,.clock,?_⟩⟩;exact⟨.clock,trivial⟩
theorem f5m(h:isB (Txt.a1v s) 0 false a5Q=true)(hl:a1b (Txt.a1v s).length (a0M (Txt.a1v s) [nmB] (1,false)).1 (a0M (Txt.a1v s) [nmB] (1,false)).2=false):g0a s (.iface 170 (.agg #[.string (a2F (Txt.a1v s) (1,false)),.bool false,.int .i64 0,.int .i64 0])) (a0M (Txt.a1v s) [nmB] (1,false)):=by
 have hk:d1Z a5Q=true:=by decide +kernel
 have hf:e1B.filter (e7c a5Q)=[[a5Q,c8r],[a5Q,c8r,c7X,c7X]]:=by decide +kernel
 have hst:a0M (Txt.a1v s) ([a5Q,c8r].map g2B) (0,false)=a0M (Txt.a1v s) [nmB] (1,false):=by rw[<- st1 h hk];simp only[List.map,d9O]
 have hS:=f3t hst hl;have hq:=hst;have K:f2K s _/\(_->_->Full s _):=⟨e6O h hf hS,e7e h hf hS hq⟩;refine⟨K.1,fun h2 hm=>⟨_,_,K.2 h2 hm,.list0,?_⟩⟩;have hF:=K.2 h2 hm;rw[f1t hF.all];exact⟨.list _ (f1s hF) false 0 0 0 1048320 rfl rfl,⟨by omega,by omega,by omega,by omega⟩⟩
theorem f5l(h:isB (Txt.a1v s) 0 false a5Q=true)(hl:a1b (Txt.a1v s).length (a0M (Txt.a1v s) [nmB] (1,false)).1 (a0M (Txt.a1v s) [nmB] (1,false)).2=true):g0a s (.iface 170 (.agg #[.string (a2F (Txt.a1v s) (1,false)),.bool true,.int .i64 (a0v (Txt.a1v s) (a0M (Txt.a1v s) [nmB] (1,false)) a0n a1J),.int .i64 (a0v (Txt.a1v s) (a0M (Txt.a1v s) [nmB,a0n] (1,false)) a0n a1J)])) (a0M (Txt.a1v s) [nmB,a0n,a0n] (1,false)):=by
 have hk:d1Z a5Q=true:=by decide +kernel
 have hf:e1B.filter (e7c a5Q)=[[a5Q,c8r],[a5Q,c8r,c7X,c7X]]:=by decide +kernel
 have hst:a0M (Txt.a1v s) ([a5Q,c8r].map g2B) (0,false)=a0M (Txt.a1v s) [nmB] (1,false):=by rw[<- st1 h hk];simp only[List.map,d9O]
 have hq:a0M (Txt.a1v s) ([a5Q,c8r,c7X,c7X].map g2B) (0,false)=a0M (Txt.a1v s) [nmB,a0n,a0n] (1,false):=by rw[<- st1 h hk];simp only[List.map,d9O,f2N]
 have hS:=f3s hst hl hq;have K:f2K s _/\(_->_->Full s _):=⟨e6O h hf hS,e7e h hf hS hq⟩;refine⟨K.1,fun h2 hm=>⟨_,_,K.2 h2 hm,.list1,?_⟩⟩;have hF:=K.2 h2 hm;have v1:=f0D (Q:=[c8r]) (s:=c7X) (R:=[c7X]) h hk hF.all a1J;have f1:=e9L [c8r] (s:=c7X) (R:=[c7X]) hF.all;simp only[List.map,List.length,d9O,f2N] at v1 f1;have v2:=f0D (Q:=[c8r,c7X]) (s:=c7X) (R:=[]) h hk hF.all a1J;have f2:=e9L [c8r,c7X] (s:=c7X) (R:=[]) hF.all;simp only[List.map,List.length,d9O,f2N] at v2 f2;rw[f1t hF.all,v1,v2,d6S f1,d6S f2];exact⟨.list _ (f1s hF) true _ _ _ _ rfl rfl,⟨(a2Y f1).1,(a2Y f1).2,(a2Y f2).1,(a2Y f2).2⟩⟩
theorem h1j(h:evB x=true):b4g x 1 7=nvF x:=f4T (d9V h).1
theorem h6h(h:Txt.a2y x=true):g2R x=b0a x:=by
 unfold b0a g2R;rw[if_pos h];simp only[Txt.a2y,decide_eq_true_eq] at h;rw[if_pos ⟨h.1,h.2.1,by omega⟩]
theorem ruG{H ws K E:List ByteArray}{ev:Int}(h:h5X H ws pc ev acc fr mn mi ti un K E):∃ k tm,h4y (ws.getD · ByteArray.empty) H.length k pc acc tm/\ruW (ws.getD · ByteArray.empty) H.length k pc acc tm=⟨pc,ev,acc,fr,mn,mi,ti,un⟩/\k+7<(H++K++g4X++E).length:=by
 obtain⟨hp,⟨k0,k1,k2,k3,k4,k5,rfl,rfl,rfl⟩,he⟩:=h
 have key:∀ {k:Nat}{tm:Bool},k=H.length+K.length->pc=1\/pc=2\/pc=3->ws.getD H.length ByteArray.empty=f9F pc->b4g (ws.getD (H.length+1) ByteArray.empty) 1 7=ev->((pc=2/\k=H.length+2+1/\Txt.onB (ws.getD (H.length+2) ByteArray.empty)=true/\Txt.onW (ws.getD (H.length+2) ByteArray.empty)=some acc)\/(pc≠2/\k=H.length+2/\acc=[]))->E.length=2->((ws.getD (k+6) ByteArray.empty).toList==[116,105,109,101,115])=tm->(if tm then b4g (ws.getD (k+7) ByteArray.empty) 1 7 else 0)=ti->(if tm then 0 else g2R (ws.getD (k+7) ByteArray.empty))=un->_:=fun {k tm} hk h3 h0 h1 h2 h4 h5 h6 h7=>(⟨k,tm,⟨h0,h3,h2,h5⟩,by
  subst hk h6 h7 h1
  simp only[ruW,h6h k1,g4W k5,c5N,k3,if_true],by subst hk;simp[g4X,h4];omega⟩:∃ k tm,h4y (ws.getD · ByteArray.empty) H.length k pc acc tm/\ruW (ws.getD · ByteArray.empty) H.length k pc acc tm=⟨pc,ev,acc,b0a (ws.getD (H.length+K.length+1) ByteArray.empty),Txt.a6J (ws.getD (H.length+K.length+3) ByteArray.empty),nvF (ws.getD (H.length+K.length+5) ByteArray.empty),ti,un⟩/\k+7<(H++K++g4X++E).length)
 cases hp with
 |daily p0 p1=>cases he with
  |times q0 q1=>exact key (tm:=true) rfl (by omega) (p0.trans (by decide +kernel)) (h1j p1) (.inr ⟨by omega,rfl,rfl⟩) rfl (by rw[q0];decide +kernel) (h1j q1) rfl
  |til q0 q1=>exact key (tm:=false) rfl (by omega) (p0.trans (by decide +kernel)) (h1j p1) (.inr ⟨by omega,rfl,rfl⟩) rfl (by rw[q0];decide +kernel) rfl (h6h q1)
 |weekly acc p0 p1 p2=>cases he with
  |times q0 q1=>exact key (tm:=true) rfl (by omega) (p0.trans (by decide +kernel)) (h1j p1) (.inl ⟨rfl,rfl,by rw[Txt.onB,p2];rfl,p2⟩) rfl (by rw[q0];decide +kernel) (h1j q1) rfl
  |til q0 q1=>exact key (tm:=false) rfl (by omega) (p0.trans (by decide +kernel)) (h1j p1) (.inl ⟨rfl,rfl,by rw[Txt.onB,p2];rfl,p2⟩) rfl (by rw[q0];decide +kernel) rfl (h6h q1)
 |monthly p0 p1=>cases he with
  |times q0 q1=>exact key (tm:=true) rfl (by omega) (p0.trans (by decide +kernel)) (h1j p1) (.inr ⟨by omega,rfl,rfl⟩) rfl (by rw[q0];decide +kernel) (h1j q1) rfl
  |til q0 q1=>exact key (tm:=false) rfl (by omega) (p0.trans (by decide +kernel)) (h1j p1) (.inr ⟨by omega,rfl,rfl⟩) rfl (by rw[q0];decide +kernel) rfl (h6h q1)
theorem g5p(h:isB (Txt.a1v s) 0 false a7l=true){ev:Int}(hr:b0m (Txt.a1v s) (a0M (Txt.a1v s) [nmB,unB] (1,false)) pc ev acc fr mn mi ti un st):g0a s (.iface 165 (.agg #[.string (a2F (Txt.a1v s) (1,false)),.int .i64 (a0v (Txt.a1v s) (a0M (Txt.a1v s) [nmB] (1,false)) unB nvF),.int .i64 pc,.int .i64 ev,.bool (isd acc 0),.bool (isd acc 1),.bool (isd acc 2),.bool (isd acc 3),.bool (isd acc 4),.bool (isd acc 5),.bool (isd acc 6),.int .i64 fr,.int .i64 mn,.int .i64 mi,.int .i64 ti,.int .i64 un])) st:=by
 refine⟨f9a h hr,fun h2 hm=>?_⟩;have hk:d1Z a7l=true:=by decide +kernel
 have hf:e1B.filter (e7c a7l)=g4E g4M:=by decide +kernel
 have hst:a0M (Txt.a1v s) (g4M.map g2B) (0,false)=(a0M (Txt.a1v s) [nmB,unB] (1,false)):=by
  unfold g4M;rw[<- st1 h hk];simp only[List.map,d9O,f5O]
 have FI:=(b2O hr h2).2;rw[<- hst] at hr;obtain⟨q,hS,hg⟩:=e2s hr;obtain⟨K,E,rfl,hq,hG⟩:=hg h2;have hF:=e7e h hf hS hq h2 hm;have e1:g4M++K++g4X++E=a7l :: ([c8r]++c8Z :: (K++g4X++E)):=by simp[g4M]
 have hF':=hF;rw[e1] at hF';have v1:=f0D (Q:=[c8r]) (s:=c8Z) (R:=K++g4X++E) h hk hF'.all nvF;have f1:=e9L (ws:=Txt.a1v s) [c8r] (k:=a7l) (s:=c8Z) (R:=K++g4X++E) hF'.all;simp only[List.map,List.length,d9O,f5O] at v1 f1;obtain⟨k,tm,r1,r2,r3⟩:=ruG hG;refine⟨_,_,hF,.series r1 r3,?_⟩;rw[f1t (R:=c8Z :: (K++g4X++E)) hF'.all,v1,g4i f1];have r2':ruW (fun j=>(Txt.a1v s).getD j ByteArray.empty) 3 k pc acc tm=_:=r2;rw[r2'];exact⟨.series _ (f1s hF') _ ⟨pc,ev,acc,fr,mn,mi,ti,un⟩,(b7G f1).1,(b7G f1).2,FI⟩
theorem g6j(h:isB (Txt.a1v s) 0 false a7M=true){ev:Int}(hr:b0m (Txt.a1v s) (1,false) pc ev acc fr mn mi ti un st):g0a s (.iface 180 (.agg #[.int .i64 pc,.int .i64 ev,.bool (isd acc 0),.bool (isd acc 1),.bool (isd acc 2),.bool (isd acc 3),.bool (isd acc 4),.bool (isd acc 5),.bool (isd acc 6),.int .i64 fr,.int .i64 mn,.int .i64 mi,.int .i64 ti,.int .i64 un])) st:=by
 refine⟨g0B h hr,fun h2 hm=>?_⟩;have hk:d1Z a7M=true:=by decide +kernel
 have hf:e1B.filter (e7c a7M)=g4E g4Z:=by decide +kernel
 have hst:a0M (Txt.a1v s) (g4Z.map g2B) (0,false)=(1,false):=by
  unfold g4Z;rw[<- st1 h hk];rfl
 have FI:=(b2O hr h2).2;rw[<- hst] at hr;obtain⟨q,hS,hg⟩:=e2s hr;obtain⟨K,E,rfl,hq,hG⟩:=hg h2;have hF:=e7e h hf hS hq h2 hm;obtain⟨k,tm,r1,r2,r3⟩:=ruG hG;refine⟨_,_,hF,.expand r1 r3,?_⟩;have r2':ruW (fun j=>(Txt.a1v s).getD j ByteArray.empty) 1 k pc acc tm=_:=r2;rw[r2'];exact⟨.expand ⟨pc,ev,acc,fr,mn,mi,ti,un⟩,FI⟩
theorem g2x(ws:List ByteArray)(st:Nat × Bool):∃ pc ev acc fr mn mi ti un s,b0m ws st pc ev acc fr mn mi ti un s:=by
 have hp:∃ pc ev acc s,b0n ws st pc ev acc s:=by
  cases h1:isB ws st.1 st.2 b0Y
  ·cases h2:isB ws st.1 st.2 a8D
   ·cases h3:isB ws st.1 st.2 a8w
    ·exact⟨_,_,_,_,.none h1 h2 h3⟩
    ·exact⟨_,_,_,_,.monthly h1 h2 h3⟩
   ·refine⟨_,_,(Txt.onW (ws.getD (a0M ws [evB] (nxt st)).1 ByteArray.empty)).getD [],_,.weekly h1 h2 _ fun h=>?_⟩;have ho:=(d7C h).2.2;rw[Txt.onB,Option.isSome_iff_exists] at ho;obtain⟨a,ha⟩:=ho;rw[ha];rfl
  ·exact⟨_,_,_,_,.daily h1⟩
 obtain⟨pc,ev,acc,s,hp⟩:=hp
 have he:∃ ti un s',c3M ws (c4Y ws s) ti un s':=by
  cases h1:isB ws (c4Y ws s).1 (c4Y ws s).2 b2z
  ·cases h2:isB ws (c4Y ws s).1 (c4Y ws s).2 b5O
   ·exact⟨_,_,_,.none h1 h2⟩
   ·exact⟨_,_,_,.til h1 h2⟩
  ·exact⟨_,_,_,.times h1⟩
 obtain⟨ti,un,s',he⟩:=he;exact⟨_,_,_,_,_,_,_,_,_,.mk pc ev acc s ti un s' hp he⟩
open Desk (Ent St Rep a0g)
theorem g3I{ops:Array Oper}{rest:List Oper}{o:Oper}{a:Act}{Q:Exit->Act->World->Prop}(hgd:o.guard=none)(x y:Operand)(ho:o.op=.call { callee:=.builtin .append,args:=#[x,y],argTypes:=#[34,34] }){l:List (Ent × Nat × Nat)}(hown:W.ownsRow B 58 6 v l.length (l.flatMap c7a))(z:Ent × Nat × Nat){ty:TypeId}{mk:Nat × Nat}(hs:a.eval x=v)(hx:a.eval y=.slice (some ⟨W.heap.size,0,none⟩) 1 1)(hl:l.length<=1000000)(hB:B<=W.heap.size)
  (h:∀ g cap w',w'.ownsRow B 58 6 (.slice (some ⟨g,0,none⟩) (l.length+1) cap) (l.length+1) ((l++[z]).flatMap c7a)->Off v.ownBlock.toList W w'->(v.ownBlock=some g\/W.heap.size<=g)->wpList Tryz.prog ops Q rest (a.put o.dst (.slice (some ⟨g,0,none⟩) (l.length+1) cap)) w'):
  wpList Tryz.prog ops Q (o :: rest) a (W.alloc (.cells #[.int .i64 z.1.id,.int .i64 z.1.kind,.string z.1.a0k,.int .i64 z.1.a0c,.slice (some ⟨z.2.1,0,none⟩) z.1.a0e.length z.2.2,.int .i64 z.1.a0Z] ty mk)):=by
 obtain⟨i0,hi0,hz0,hz1,hz2⟩:=info_parts e2i;refine wpList_append_lies _ hgd x y 34 ho B 58 i0 _ 6 72 Tryz.underlying34 hi0 hz0 hz1 hz2 rfl (by decide) v l.length (l.flatMap c7a) hs (hown.alloc _) ⟨W.heap.size,0,none⟩ 1 1 (c7a z) hx rfl (World.news_of_block (cs:=(c7a z).toArray) (a0p W _)) (by simp[c7a,Value.oneCell']) (by omega) (by unfold maxLen;omega) (by omega) (by simp;omega) (W.heap.size+1) (by simp) ?_;intro g cap w' h1 h2 h3 _;have e2:(l++[z]).flatMap c7a=l.flatMap c7a++c7a z:=by simp
 have:=h g cap w';rw[e2] at this;exact this h1 (((Off.refl _ W).alloc _).grown h2 (fun k hk=>.inl (by simp[hk]))) (h3.imp id (fun e=>by omega))
theorem d9z.snoc{y:Ent × Nat × Nat}{g:Nat}(h:d9z w X v ys)(hy:RSL X y.2.1 y.1.a0e/\w.heap.size<=y.2.1/\y.2.1<X.heap.size/\v.ownBlock≠some y.2.1)(ho:w'.ownsRow w.heap.size 58 6 (.slice (some ⟨g,0,none⟩) (ys.length+1) cap) (ys.length+1) ((ys++[y]).flatMap c7a))(k:Off v.ownBlock.toList X w')(hat:v.ownBlock=some g\/X.heap.size<=g):d9z w w' (.slice (some ⟨g,0,none⟩) (ys.length+1) cap) (ys++[y]):=by
 refine⟨by rw[List.length_append];exact ho,fun z hz=>?_,⟨k.os.trans h.bw.os,k.tape.trans h.bw.tape,k.output.trans h.bw.output,Nat.le_trans h.bw.size k.size,fun b hb=>(k.block b (zL hb h.bw.size) (fun e=>?_)).trans (h.bw.block b hb)⟩⟩
 ·have hz':RSL X z.2.1 z.1.a0e/\w.heap.size<=z.2.1/\z.2.1<X.heap.size/\v.ownBlock≠some z.2.1:=by
   rcases List.mem_append.1 hz with hz|hz
   ·exact h.sl z hz
   ·have:z=y:=by simpa using hz
    subst this;exact hy
  obtain⟨z1,z2,z3,z4⟩:=hz';refine⟨z1.off k (by simpa using fun e=>z4 e),z2,Nat.lt_of_lt_of_le z3 k.size,?_⟩;simp only[Value.ownBlock,ne_eq,Option.some.injEq];rintro rfl;rcases hat with e|e
  ·exact z4 e
  ·omega
 ·have:=d0G h.own (k:=b) (by simpa using e);omega
def e2K(w:World)(v:Value)(es:List Ent)(w':World):Prop :=
 ∃ (l:List (Ent × Value)) (G:List Nat),l.map (·.1)=es/\(∀ w2,(∀ b∈G,w2.heap[b]?=w'.heap[b]?)->EV w2 v l)/\(∀ b∈G,w.heap.size<=b/\b<w'.heap.size)/\Below w.heap.size w w'
def g0T(y:Ent × Nat × Nat):Ent × Value:=(y.1,.slice (some ⟨y.2.1,0,none⟩) y.1.a0e.length y.2.2)
theorem RSL.sv{L:List (Int × Int)}(h:RSL w B L):SV w (.slice (some ⟨B,0,none⟩) L.length cap) L:=⟨⟨_,_,rfl⟩,fun k hk=>⟨B,cap,rfl,h k hk⟩⟩
theorem g0R{g:Nat}{a:Option Addr}{zs:List (Ent × Nat × Nat)}(ha:zs≠[]->a=some ⟨g,0,none⟩)(hr:∀ (i:Nat)(hi:i<zs.length),RE w' g i zs[i].1 zs[i].2.1 zs[i].2.2)(hg:zs≠[]->w.heap.size<=g/\g<w'.heap.size)(hb:∀ z∈zs,w.heap.size<=z.2.1/\z.2.1<w'.heap.size)(k:Below w.heap.size w w'):e2K w (.slice a zs.length cap) (zs.map (·.1)) w':=by
 refine⟨zs.map g0T,(if zs=[] then [] else [g])++zs.map (·.2.1),by simp[g0T,Function.comp_def],fun w2 hG=>?_,fun b hb2=>?_,k⟩
 ·have hc:∀ b o u,b∈(if zs=[] then [] else [g])++zs.map (·.2.1)->w'.cell? ⟨b,o,none⟩=some u->w2.cell? ⟨b,o,none⟩=some u:=fun b o u hb2 hu=>(zo (hG b hb2)).trans hu
  refine⟨⟨a,cap,by simp⟩,fun i hi=>?_,fun p hp=>?_⟩
  ·have hi':i<zs.length:=by simpa using hi
   have hne:zs≠[]:=by rintro rfl;simp at hi'
   have q:=hr i hi'
   have hgm:g∈(if zs=[] then [] else [g])++zs.map (·.2.1):=by simp[hne]
   refine⟨g,cap,by rw[ha hne];simp,?_⟩;simp only[List.getElem_map,g0T];exact⟨hc _ _ _ hgm q.c0,hc _ _ _ hgm q.c1,hc _ _ _ hgm q.c2,hc _ _ _ hgm q.c3,hc _ _ _ hgm q.c4,hc _ _ _ hgm q.c5⟩
  ·obtain⟨z,hz,rfl⟩:=List.mem_map.1 hp;obtain⟨i,hi,rfl⟩:=List.getElem_of_mem hz;refine RSL.sv (fun j hj=>?_);have q:=(hr i hi).sl j hj;have hm:zs[i].2.1∈(if zs=[] then [] else [g])++zs.map (·.2.1):=List.mem_append_right _ (List.mem_map.2 ⟨_,hz,rfl⟩);exact⟨hc _ _ _ hm q.1,hc _ _ _ hm q.2⟩
 ·rcases List.mem_append.1 hb2 with e|e
  ·by_cases hz:zs=[]
   ·simp[hz] at e
   ·simp[hz] at e;subst e;exact hg hz
  ·obtain⟨z,hz,rfl⟩:=List.mem_map.1 e;exact hb z hz
theorem d9z.told(h:d9z w w' v ys):e2K w v (ys.map (·.1)) w':=by
 obtain⟨a,cap,g,rfl,_,ha,hr⟩:=e1F h.own (fun y hy=>(h.sl y hy).1);refine g0R ha hr (fun hne=>?_) (fun z hz=>⟨(h.sl z hz).2.1,(h.sl z hz).2.2.1⟩) h.bw;obtain rfl:=ha hne;exact⟨d0G h.own rfl,c7O h.own rfl⟩
theorem g7T{d:Nat}{s:St}{xs:List (Ent × Nat × Nat)}(h:DD w d s xs F):
  Calls Tryz.prog 179 #[.pointer (some ⟨d,0,none⟩)] w fun e w'=>∃ v,e=.returned v/\e2K w v (s.es.filter fun e=>e.kind==3) w':=by
 have H:=a0b h;have hlen:=h.len;have hel:=h.el;clear h
 go_enter Tryz.func179,Tryz.ntmps179
 go_wp2_with fail
 go_loopw [3,4] (fun v i wx=>∃ k:Nat,k<=xs.length/\i=.int .i64 k/\∃ ys,d9z w wx v ys/\ys.length<=k/\ys.map (·.1)=((xs.take k).map (·.1)).filter fun e=>e.kind==3) (fun _ i _=>xs.length-(intOf i).toNat)
 case atStart=>exact⟨0,Nat.zero_le _,rfl,[],⟨World.ownsRow_nil _ _ _ _,by simp,Below.refl _ _⟩,by simp,by simp⟩
 case round =>
  obtain⟨k,hk,rfl,ys,hR,hyl,hys⟩:=hrel;have hD:=H.out.later hR.bw;obtain⟨a,cap,E,hr⟩:=hD.er;have cc:=hr.c;have HR:=a0b (And.intro hR hys)
  by_cases hlt:k<xs.length
  ·obtain rfl:=hr.a k hlt;have r0:=hr.r k hlt;have c0:=r0.c0;have c1:=r0.c1;have c2:=r0.c2;have c3:=r0.c3;have c4:=r0.c4;have c5:=r0.c5;have hi:(k:Int)<(xs.length:Int):=by omega
   have heb:=H.out.en xs[k].1 (H.out.es ▸ List.mem_map.2 ⟨_,List.getElem_mem hlt,rfl⟩);have CP:=a0b (f2w xs[k] wr r0.sl (by have:=heb.s0;exact List.length_pos_iff.2 this) (by have:=heb.sl;omega))
   have ht:(xs.take (k+1)).map (·.1)=(xs.take k).map (·.1)++[xs[k].1]:=by rw[List.take_succ_eq_append_getElem hlt,List.map_append];rfl
   have HT:=a0b ht;clear hR hys hD hr r0 ht heb
   cases hq:(xs[k].1.kind==3)
   ·have HQ:=a0b hq
    go_wp2_with fail
    go_roundw
    case rel=>exact⟨k+1,by omega,by go_num,ys,HR.out.1,by omega,by rw[HT.out,List.filter_append,HR.out.2];simp[HQ.out]⟩
    case measure=>simp[intOf];omega
   ·have HQ:=a0b hq
    go_wp2_with fail
    refine CP.out.mono ?_;rintro e w4 ⟨gq,cq,rfl,q1,q2,q3,hb4⟩;simp only[c7a];have R4:=a0b (HR.out.1.later hb4);have hne:u3.ownBlock≠some gq:=fun e=>by have:=c7O HR.out.1.own e;omega
    have Q4:=a0b (And.intro q1 (And.intro (Nat.le_trans HR.out.1.bw.size q2) (And.intro q3 hne)));have hbz:=R4.out.bw.size;clear hb4 q1 q2 q3 hne c0 c1 c2 c3 c4 c5 cc CP hq
    go_wp2_with (first|(at_builtin;refine g3I rfl _ _ rfl R4.out.own (xs[k].1,gq,cq) rfl rfl (by omega) hbz ?_;intro g5 c5 w5 ho5 k5 hat5))
    have R5:=a0b (R4.out.snoc Q4.out ho5 k5 hat5);clear ho5 k5 hat5;go_roundw
    case rel=>exact⟨k+1,by omega,by go_num,_,R5.out,by simp;omega,by rw[List.map_append,HR.out.2,HT.out,List.filter_append];simp[HQ.out]⟩
    case measure=>simp[intOf];omega
  ·have e:xs.take k=xs:=List.take_of_length_le (by omega);have hi:¬ (k:Int)<(xs.length:Int):=by omega
   have HF:Hid (e2K w u3 (s.es.filter fun e=>e.kind==3) wr):=by
    have:=hR.told;rw[hys,e,H.out.es] at this;exact this
   clear hR hys hD hr e
   go_wp2_with fail
   go_ret;exact⟨_,rfl,HF.out⟩
theorem d1S.up{d:Nat}{q:St × Rep}{e:Ending}(h:d1S X d F ys q e Z)(kX:Below w.heap.size w X)(hQ:w.heap.size<=Q)(hQX:Q<X.heap.size)(hF:∀ k∈F,k<w.heap.size)(hY:∀ y∈ys,y.2.1<w.heap.size)(h7:Q7 X Q):
  ∃ (a1 a2 a3 a4:Option Addr) (n1 n2 n3 n4 c1 c2 c3 c4:Nat),e=.returned (a0s q.2.err 0 q.2.n (.slice a1 n1 c1) (.slice a2 n2 c2) (.slice a3 n3 c3) (.slice a4 n4 c4))/\Q7 Z Q/\d1S w d F ys q e (a2w Z Q (.int .i64 q.2.err) (.int .i64 0) (.int .i64 q.2.n) (.slice a1 n1 c1) (.slice a2 n2 c2) (.slice a3 n3 c3) (.slice a4 n4 c4)):=by
 obtain⟨v1,v2,v3,v4,xs,F',G,he,hT,h3,hD,hF',hO,hG,h3F,hS⟩:=h;have T:=hT Z (fun _ _=>rfl);obtain⟨l,hl,_⟩:=T.en;obtain⟨a1,c1,e1⟩:=hl.form;obtain⟨a2,c2,e2⟩:=T.da.form;obtain⟨a3,c3,e3⟩:=c9y h3;obtain⟨a4,c4,e4⟩:=T.ed.form;subst e1 e2 e3 e4;have hQF:Q ∉ F:=fun e=>by have:=hF Q e;omega
 have hsz:=kX.size;refine⟨a1,a2,a3,a4,_,_,_,_,c1,c2,c3,c4,he,h7.later (hO.block Q hQX hQF),?_⟩;have k7:=a2R Z Q (.int .i64 q.2.err) (.int .i64 0) (.int .i64 q.2.n) (.slice a1 l.length c1) (.slice a2 q.2.days.length c2) (.slice a3 q.2.granted.length c3) (.slice a4 q.2.ended.length c4);have hx:∀ x,X.heap.size<=x->x ∉ [Q]:=fun x hx e=>by simp at e;omega
 have hF2:∀ x∈F',x ∉ [Q]:=fun x hx'=>by
  rcases hF' x hx' with e|e
  ·intro e2;simp at e2;exact hQF (e2 ▸ e)
  ·exact hx x e
 have hd:=hD.rd;refine⟨_,_,_,_,xs,F',G,he,fun w2 h2=>hT w2 (fun b hb=>(h2 b hb).trans (k7.block b (hG b hb).2.1 (hx b (hG b hb).1))),d7F (a1i h3 k7 (fun b hb=>hx b (d0G h3 hb))) hsz,hD.off k7 hF2 (fun x hx' e=>?_),fun k hk=>(hF' k hk).imp id (fun e=>by omega),((Off.of_below kX).trans hO).trans' k7 (fun x hx'=>.inr (by simp at hx';omega)),fun b hb=>?_,h3F,fun x hx'=>(hS x hx').imp id (fun e=>by omega)⟩
 ·have e2:x.2.1=Q:=by simpa using e
  rcases hS x hx' with ⟨y,hy,e3⟩|e3
  ·have:=hY y hy;omega
  ·omega
 ·obtain⟨g1,g2,g3,g4⟩:=hG b hb;exact⟨by omega,Nat.lt_of_lt_of_le g2 k7.size,g3,g4⟩
def e2E:List (ByteArray × Nat):=[(⟨#[116,104,105,110,103]⟩,172),(⟨#[98,111,111,107]⟩,173),(⟨#[104,111,108,100]⟩,173),(⟨#[119,97,105,116]⟩,173),(⟨#[115,101,114,105,101,115]⟩,174),(⟨#[99,111,110,102,105,114,109]⟩,175),(⟨#[99,97,110,99,101,108]⟩,175),(⟨#[108,105,115,116]⟩,177),(⟨#[112,101,97,107]⟩,177),(⟨#[102,105,110,100]⟩,178)]
theorem d0J{d:Nat}{s:St}{xs:List (Ent × Nat × Nat)}(h:DD w d s xs F){f:Nat}{kw:ByteArray}{g c:Nat}{q:St × Rep}(hn:0<n)(h0:w.cell? ⟨g,0,none⟩=some (.string kw))(hf:(kw,f)∈e2E)(C:∀ X,Below w.heap.size w X->Calls Tryz.prog f #[.pointer (some ⟨d,0,none⟩),.slice (some ⟨g,0,none⟩) n c] X (d1S X d F xs q)):
  Calls Tryz.prog 117 #[.pointer (some ⟨d,0,none⟩),.slice (some ⟨g,0,none⟩) n c] w (d1S w d F xs q):=by
 have P0:=a0b ((KP.nil w).alloc a0f);have HL:=a0b (And.intro h.lt (fun y hy=>(h.rd.sp y hy).2.2));have i0:(0:Int)<(n:Int):=by omega
 have y0:=a0a P0.out.bl h0;have hQ:w.heap.size<(w.alloc a0f).heap.size:=by simp
 have CC:=a0b (C _ P0.out.bl);clear h C h0;simp only[e2E,List.mem_cons,Prod.mk.injEq,List.not_mem_nil,or_false] at hf;rcases hf with ⟨rfl,rfl⟩|⟨rfl,rfl⟩|⟨rfl,rfl⟩|⟨rfl,rfl⟩|⟨rfl,rfl⟩|⟨rfl,rfl⟩|⟨rfl,rfl⟩|⟨rfl,rfl⟩|⟨rfl,rfl⟩|⟨rfl,rfl⟩
 all_goals
  go_enter Tryz.func117,Tryz.ntmps117
  go_upto_region 1 with fail
  change Code.wp _ _ _ _ (w.alloc a0f);generalize w.alloc a0f=X at *
  go_wp2_with fail
  refine CC.out.mono ?_;intro e w2 hA;obtain⟨a1,a2,a3,a4,n1,n2,n3,n4,c1,c2,c3,c4,rfl,h7,hA⟩:=hA.up P0.out.bl (zq _) hQ HL.out.1 HL.out.2 (Q7.of (P0.out.kb (w.heap.size,a0f) (by simp)));have HA:=a0b hA;obtain⟨q0,q1,q2,q3,q4,q5,q6,fq⟩:=h7;clear hA y0 CC;simp only[a0s]
  go_wp2_with fail
  exact d0O Tryz.results117 ⟨q0,q1,q2,q3,q4,q5,q6,fq⟩ HA.out
theorem e7i{d:Nat}{s:St}{xs:List (Ent × Nat × Nat)}(h:DD w d s xs F){g c:Nat}(hn:0<n)(h0:w.cell? ⟨g,0,none⟩=some (.string ⟨#[99,108,111,99,107]⟩)):
  Calls Tryz.prog 117 #[.pointer (some ⟨d,0,none⟩),.slice (some ⟨g,0,none⟩) n c] w (d1S w d F xs (a0g s .clock)):=by
 have P0:=a0b ((KP.nil w).alloc a0f);have H:=a0b h;have i0:(0:Int)<(n:Int):=by omega
 have y0:=a0a P0.out.bl h0;have n3:=(h.later P0.out.bl).rd.c3;have HF:Hid (d1S w d F xs (a0g s .clock) (.returned (a0s 0 0 s.now c7N c7N c7N c7N)) (a2w (w.alloc a0f) w.heap.size (.int .i64 0) (.int .i64 0) (.int .i64 s.now) c7N c7N c7N c7N)):=h.said P0.out.bl (zq _) 0 s.now _ _ _ _ _ _ _;clear h h0
 go_enter Tryz.func117,Tryz.ntmps117
 go_upto_region 1 with fail
 change Code.wp _ _ _ _ (w.alloc a0f);generalize w.alloc a0f=X at *;obtain⟨q0,q1,q2,q3,q4,q5,q6,fq⟩:=Q7.of (P0.out.kb (w.heap.size,a0f) (by simp))
 go_wp2_with fail
 exact d0O Tryz.results117 ⟨q0,q1,q2,q3,q4,q5,q6,fq⟩ HF.out
open Desk (Ent St Rep a0g a0R)
def DDo(w:World)(d:Nat)(F:List Nat)(xs:List (Ent × Nat × Nat))(q:St × Rep)(e:Ending)(w':World):Prop :=
 ∃ (v1 v2 v3 v4:Value) (xs':List (Ent × Nat × Nat)) (F':List Nat),e=.returned (a0s q.2.err q.2.at_ q.2.n v1 v2 v3 v4)/\e2L w' v1 v2 v4 q.2/\NV w' v3 q.2.granted/\DD w' d q.1 xs' F'/\(∀ k∈F',k∈F\/w.heap.size<=k)/\Off F w w'/\∀ x∈xs',(∃ y∈xs,x.2.1=y.2.1)\/w.heap.size<=x.2.1
theorem NV.own{l:List Int}(h:w.ownsRow B 3 1 v n (l.map (Value.int .i64))):NV w v l:=by
 obtain⟨a,cap,g,rfl,rfl,ha,hc⟩:=e1E h;exact⟨⟨_,_,rfl⟩,fun k hk=>⟨g,cap,by rw[ha (by intro e;simp[e] at hk)],hc k hk⟩⟩
theorem e2L.gr{v1 v2 v4:Value}{p:Rep}(h:e2L w v1 v2 v4 p)(g:List Int):e2L w v1 v2 v4 { p with granted:=g }:=⟨h.en,h.da,h.ed⟩
def fin(q:St × Rep):St × Rep:=if q.2.err≠0 then q else ({ q.1 with es:=(a0R q.1.ts q.1.es).1 },{ q.2 with granted:=q.2.granted++(a0R q.1.ts q.1.es).2 })
theorem e3Y{d:Nat}{s:St}{xs:List (Ent × Nat × Nat)}(h:DD w d s xs F)(t:ByteArray){er at_:Int}(he:er≠0)(hR:∀ X,Calls Tryz.prog 78 #[.string t] X fun e w'=>e=.returned (.tuple #[.slice none 0 0,.slice none 0 0,.int .i64 er,.int .i64 at_])/\Below X.heap.size X w'):
  Calls Tryz.prog 75 #[.pointer (some ⟨d,0,none⟩),.string t] w (DDo w d F xs (s,⟨er,at_,0,[],[],[],[]⟩)):=by
 have P0:=a0b ((KP.nil w).alloc a0f);have H:=a0b h;have RD:=a0b hR;have he':(er != 0)=true:=by simpa using he
 clear h hR he
 go_enter Tryz.func75,Tryz.ntmps75
 go_upto_region 1 with fail
 change Code.wp _ _ _ _ (w.alloc a0f);generalize w.alloc a0f=X at *
 go_wp2_with fail
 refine (RD.out _).mono ?_;rintro e w1 ⟨rfl,hb1⟩;replace P0:=a0b (P0.out.later hb1)
 have HF:Hid (DDo w d F xs (s,⟨er,at_,0,[],[],[],[]⟩) (.returned (a0s er at_ 0 c7N c7N c7N c7N)) (a2w w1 w.heap.size (.int .i64 er) (.int .i64 at_) (.int .i64 0) c7N c7N c7N c7N)):=by
  have k7:=a2R w1 w.heap.size (.int .i64 er) (.int .i64 at_) (.int .i64 0) c7N c7N c7N c7N;have hx:∀ x,x<w.heap.size->x ∉ [w.heap.size]:=fun x hx e=>by simp at e;omega
  exact⟨c7N,c7N,c7N,c7N,xs,F,rfl,e2L.nil _,NV.nil _,(H.out.later P0.out.bl).off k7 (fun x h1=>hx x (H.out.lt x h1)) (fun x h1=>hx _ (H.out.rd.sp x h1).2.2),fun _ h1=>.inl h1,(Off.of_below P0.out.bl).trans' k7 (fun x h1=>.inr (by simp at h1;omega)),fun x h1=>.inl ⟨x,h1,rfl⟩⟩
 obtain⟨q0,q1,q2,q3,q4,q5,q6,fq⟩:=Q7.of (P0.out.kb (w.heap.size,a0f) (by simp));clear hb1
 go_wp2_with fail
 exact d0O Tryz.results75 ⟨q0,q1,q2,q3,q4,q5,q6,fq⟩ HF.out
theorem f1l{d:Nat}{s:St}{xs:List (Ent × Nat × Nat)}(h:DD w d s xs F)(t:ByteArray)(ht:t.size<=160){p:List ByteArray}(hp:g0V t=(some p,0))(hne:0<(Txt.a1v t).length){q:St × Rep}(h0:q.2.at_=0)(hg:q.2.granted.length<=50000)
  (C:∀ X g c,Below w.heap.size w X->(∀ (j:Nat) (hj:j<(Txt.a1v t).length),X.cell? ⟨g,j,none⟩=some (.string (Txt.a1v t)[j]))->Calls Tryz.prog 117 #[.pointer (some ⟨d,0,none⟩),.slice (some ⟨g,0,none⟩) (Txt.a1v t).length c] X (d1S X d F xs q)):
  Calls Tryz.prog 75 #[.pointer (some ⟨d,0,none⟩),.string t] w (DDo w d F xs (fin q)):=by
 have P0:=a0b ((KP.nil w).alloc a0f);have H:=a0b h;have HC:=a0b C;have HP:=a0b hp;clear h C hp
 go_enter Tryz.func75,Tryz.ntmps75
 go_upto_region 1 with fail
 change Code.wp _ _ _ _ (w.alloc a0f);generalize w.alloc a0f=X at *
 go_wp2_with fail
 refine (d4Z t X ht).mono ?_;rintro e w1 ⟨hr,hb1⟩;rcases hr with ⟨p',a,b,c,d',g,h',hsc,rfl,ra,rb⟩|⟨m,hsc,rfl⟩
 case' inr=>rw[HP.out] at hsc;cases hsc
 obtain rfl:=ra.at_ hne;replace P0:=a0b (P0.out.later hb1);have DC:=a0b (HC.out w1 g c P0.out.bl ra.cells);clear hb1 ra rb hsc
 go_wp2_with fail
 refine DC.out.mono ?_;intro e w2 hA;have hQ1:w.heap.size<w1.heap.size:=P0.out.lt (q:=(w.heap.size,a0f)) (by simp);have h7:=Q7.of (P0.out.kb (w.heap.size,a0f) (by simp));obtain⟨v1,v2,v3,v4,xs',F',G,rfl,hT,h3,hD,hF',hO,hG,h3F,hS⟩:=hA;have T:=hT w2 (fun _ _=>rfl);obtain⟨l,hl,_⟩:=T.en;obtain⟨a1,c1,rfl⟩:=hl.form;obtain⟨a2,c2,rfl⟩:=T.da.form;obtain⟨a3,c3,rfl⟩:=c9y h3;obtain⟨a4,c4,rfl⟩:=T.ed.form;have hQF:w.heap.size ∉ F:=fun e=>by have:=H.out.lt _ e;omega
 have hw12:=hO.size;have hQF':w.heap.size ∉ F':=fun e=>by rcases hF' _ e with e|e;exact hQF e;omega
 have h72:=h7.later (hO.block _ hQ1 hQF)
 have hsp:∀ x∈xs',x.2.1≠w.heap.size/\x.2.1<w2.heap.size:=fun x hx=>⟨fun e=>by
  rcases hS x hx with ⟨y,hy,e2⟩|e2
  ·have:=(H.out.rd.sp y hy).2.2;omega
  ·omega,(hD.rd.sp x hx).2.2⟩
 have hS2:∀ x∈xs',(∃ y∈xs,x.2.1=y.2.1)\/w.heap.size<=x.2.1:=fun x hx=>(hS x hx).imp id (fun e=>by omega)
 have hw2:Off F w w2:=(Off.of_below P0.out.bl).trans hO;have KR:=(KP.nil w2).alloc (.cells #[.int .i64 q.2.err,.int .i64 0,.int .i64 q.2.n,.slice a1 l.length c1,.slice a2 q.2.days.length c2,.slice a3 q.2.granted.length c3,.slice a4 q.2.ended.length c4] 40);have hZs:w2.heap.size<(w2.alloc (.cells #[.int .i64 q.2.err,.int .i64 0,.int .i64 q.2.n,.slice a1 l.length c1,.slice a2 q.2.days.length c2,.slice a3 q.2.granted.length c3,.slice a4 q.2.ended.length c4] 40)).heap.size:=by simp
 have A:=a0b (And.intro hT (And.intro h3 (And.intro hD (And.intro hF' (And.intro hO (And.intro hG (And.intro h3F (And.intro hsp (And.intro hS2 (And.intro hw2 h72))))))))));clear T hl hT h3 hD hF' hO hG h3F hS hsp hS2 hw2 h72 h7 DC HC;simp only[a0s]
 go_upto_region 5 with fail
 have HK:=a0b KR;have r0:=KR.hc 0 rfl;have r1:=KR.hc 1 rfl;have r2:=KR.hc 2 rfl;have r3:=KR.hc 3 rfl;have r4:=KR.hc 4 rfl;have r5:=KR.hc 5 rfl;have r6:=KR.hc 6 rfl;have rf:=KR.hf;clear KR;generalize w2.alloc _=Z at *;have kZ:=HK.out.bl;have Q2:=a0b (A.out.2.2.2.2.2.2.2.2.2.2.later (kZ.block _ (by omega)));have DZ:=a0b (A.out.2.2.1.later kZ);have WZ:=a0b (A.out.2.2.2.2.2.2.2.2.2.1.trans (Off.of_below kZ))
 by_cases he:q.2.err=0
 ·have he':(q.2.err != 0)=false:=by simp[he]
  have GR:=a0b (f2a DZ.out);have E9:Hid (fin q=({ q.1 with es:=(a0R q.1.ts q.1.es).1 },{ q.2 with granted:=q.2.granted++(a0R q.1.ts q.1.es).2 })):=by show _=_;unfold fin;rw[if_neg (by simp[he])]
  have hgl:Hid ((a0R q.1.ts q.1.es).2.length<=60):=by
   have:=(a6g q.1.ts q.1.es []).2;have:=DZ.out.el;show (Desk.a0O _ _ _).2.length<=60;omega
  have HE:=a0b he;clear he kZ
  go_wp2_with fail
  refine GR.out.mono ?_;rintro e w3 ⟨v5,rfl,h5,⟨xs3,hD3,hB3⟩,hO3⟩;obtain⟨a5,c5,rfl⟩:=c9y h5;obtain⟨hT,h3,hD,hF',hO,hG,h3F,hsp,hS2,hw2,h72⟩:=A.out;have kZ:=HK.out.bl;have hRF:w2.heap.size ∉ F':=fun e=>by have:=hD.lt _ e;omega
  have h33:=a1i (a1g h3 kZ) hO3 (fun b hb=>(h3F b hb).1);have hz3:=hO3.size;have n3:a2I w3 w1.heap.size (fun _=>none) (.slice a3 q.2.granted.length c3) q.2.granted:=⟨h33,fun _ _=>rfl⟩;have n5:a2I w3 w1.heap.size (fun _=>none) (.slice a5 (a0R q.1.ts q.1.es).2.length c5) (a0R q.1.ts q.1.es).2:=⟨d7F h5 (by omega),fun _ _=>rfl⟩;obtain⟨v6,w4,hrun,n6,hgrow,hat⟩:=n3.append n5 (by omega) (fun _ _=>rfl) (by have:=hgl.out;omega);obtain⟨a6,c6,rfl⟩:=c9y n6.own;have h3b:∀ b,(Value.slice a3 q.2.granted.length c3).ownBlock=some b->w1.heap.size<=b/\b<w2.heap.size:=fun b hb=>⟨d0G h3 hb,c7O h3 hb⟩
  have k4:Off (Value.slice a3 q.2.granted.length c3).ownBlock.toList w3 w4:=(Off.refl _ w3).grown hgrow (fun k hk=>.inl (by simp[hk]));have h3t:∀ x∈(Value.slice a3 q.2.granted.length c3).ownBlock.toList,(Value.slice a3 q.2.granted.length c3).ownBlock=some x:=fun x hx=>by simpa using hx
  have bR:w4.heap[w2.heap.size]?=Z.heap[w2.heap.size]?:=(k4.block _ (by omega) (fun e=>by have:=(h3b _ (h3t _ e)).2;omega)).trans (hO3.block _ (by omega) hRF);have bQ:w4.heap[w.heap.size]?=Z.heap[w.heap.size]?:=(k4.block _ (by omega) (fun e=>by have:=(h3b _ (h3t _ e)).1;omega)).trans (hO3.block _ (by omega) hQF');have s0:=(zo (a:=⟨w2.heap.size,0,none⟩) bR).trans r0;have s1:=(zo (a:=⟨w2.heap.size,1,none⟩) bR).trans r1;have s2:=(zo (a:=⟨w2.heap.size,2,none⟩) bR).trans r2;have s3:=(zo (a:=⟨w2.heap.size,3,none⟩) bR).trans r3;have s4:=(zo (a:=⟨w2.heap.size,4,none⟩) bR).trans r4;have s5:=(zo (a:=⟨w2.heap.size,5,none⟩) bR).trans r5;have s6:=(zo (a:=⟨w2.heap.size,6,none⟩) bR).trans r6;have t5:=(zo (a:=⟨w2.heap.size,5,none⟩) (hO3.block _ (by omega) hRF)).trans r5;have sf:w4.frozen? ⟨w2.heap.size,5,none⟩=false:=by have:=rf 5;simp only[World.frozen?,bR];exact this
  have hRQ:w2.heap.size≠w.heap.size:=by omega
  obtain⟨q0,q1,q2,q3,q4,q5,q6,fq⟩:=Q2.out.later bQ;obtain⟨N6,hN6⟩:∃ N6,N6=(q.2.granted++(a0R q.1.ts q.1.es).2).length:=⟨_,rfl⟩
  have HF:Hid (∀ Y,Y=w4.setCell ⟨w2.heap.size,5,none⟩ (.slice a6 N6 c6)->DDo w d F xs ({ q.1 with es:=(a0R q.1.ts q.1.es).1 },{ q.2 with granted:=q.2.granted++(a0R q.1.ts q.1.es).2 }) (.returned (a0s q.2.err 0 q.2.n (.slice a1 l.length c1) (.slice a2 q.2.days.length c2) (.slice a6 N6 c6) (.slice a4 q.2.ended.length c4))) (a2w Y w.heap.size (.int .i64 q.2.err) (.int .i64 0) (.int .i64 q.2.n) (.slice a1 l.length c1) (.slice a2 q.2.days.length c2) (.slice a6 N6 c6) (.slice a4 q.2.ended.length c4))):=by
   rw[hN6];rintro Y rfl;have k5:Off [w2.heap.size] w4 (w4.setCell ⟨w2.heap.size,5,none⟩ (.slice a6 (q.2.granted++(a0R q.1.ts q.1.es).2).length c6)):=Off.set0 ..;have k7:=a2R (w4.setCell ⟨w2.heap.size,5,none⟩ (.slice a6 (q.2.granted++(a0R q.1.ts q.1.es).2).length c6)) w.heap.size (.int .i64 q.2.err) (.int .i64 0) (.int .i64 q.2.n) (.slice a1 l.length c1) (.slice a2 q.2.days.length c2) (.slice a6 (q.2.granted++(a0R q.1.ts q.1.es).2).length c6) (.slice a4 q.2.ended.length c4);have k57:=(k5.mono (G:=[w2.heap.size,w.heap.size]) (by simp)).trans (k7.mono (by simp));have hz4:=k4.size;have n7:∀ x,x∈[w2.heap.size,w.heap.size]->x=w2.heap.size\/x=w.heap.size:=fun x hx=>by simpa using hx
   have hx3:∀ x∈xs3,∃ z∈xs',x.2.1=z.2.1:=hB3
   have hD4:=(hD3.off k4 (fun x hx e=>(h3F x (h3t x e)).1 hx) (fun x hx e=>by
    obtain⟨z,hz,e2⟩:=hx3 x hx
    exact (h3F _ (h3t _ e)).2 z hz e2.symm)).off k57 (fun x hx e=>by
     rcases n7 x e with rfl|rfl
     ·exact hRF hx
     ·exact hQF' hx) (fun x hx e=>by
     obtain⟨z,hz,e2⟩:=hx3 x hx;have:=hsp z hz
     rcases n7 _ e with e3|e3 <;> omega)
   refine⟨_,_,_,_,xs3,F',by rw[h0],(hT _ (fun b hb=>?_)).gr _,NV.own (a1i n6.own k57 (fun b hb e=>?_)),hD4,fun k hk=>(hF' k hk).imp id (fun e=>by omega),(((WZ.out.trans' hO3 (fun x hx=>(hF' x hx).imp id (fun e=>by omega))).trans' k4 (fun x hx=>.inr (by have:=(h3b x (h3t x hx)).1;omega))).trans' k57 (fun x hx=>.inr (by rcases n7 x hx with e|e <;> omega))),fun x hx=>?_⟩
   ·obtain⟨g1,g2,g3,g4⟩:=hG b hb;refine (k57.block b (by omega) (fun e=>by rcases n7 b e with e|e <;> omega)).trans ((k4.block b (by omega) (fun e=>g4 (h3t b e))).trans ((hO3.block b (by omega) g3).trans (kZ.block b g2)))
   ·have h8:b<w2.heap.size/\w1.heap.size<=b\/w3.heap.size<=b:=by
     rcases hat with e2|e2
     ·rw[e2] at hb;exact .inl ⟨(h3b b hb).2,(h3b b hb).1⟩
     ·rw[e2] at hb;simp only[Option.some.injEq] at hb;exact .inr (by omega)
    rcases n7 b e with e|e <;> omega
   ·obtain⟨z,hz,e2⟩:=hx3 x hx;rw[e2];exact hS2 z hz
  rw[<- hN6] at hrun;have HR:=a0b hrun;clear hT h3 hD hF' hO hG h3F hsp hS2 hw2 h72 h33 n3 n5 n6 hgrow hat h3b k4 h3t bR bQ hrun h5 hD3 hB3 hO3 A r0 r1 r2 r3 r4 r5 r6 rf kZ hN6
  go_wp2_with (first|(at_builtin;refine d6i rfl _ _ 38 _ rfl (HR.out _) ?_))
  exact bodyPost_ret (v:=a0s q.2.err 0 q.2.n (.slice a1 l.length c1) (.slice a2 q.2.days.length c2) (.slice a6 N6 c6) (.slice a4 q.2.ended.length c4)) (by simp[results,Tryz.results75,go_sem,a0s,q0,q1,q2,q3,q4,q5,q6]) rfl (by rw[E9.out];exact HF.out _ rfl)
 ·have he':(q.2.err != 0)=true:=by simpa using he
  have E9:Hid (fin q=q):=by show _=_;unfold fin;rw[if_pos he]
  have HF:Hid (DDo w d F xs q (.returned (a0s q.2.err 0 q.2.n (.slice a1 l.length c1) (.slice a2 q.2.days.length c2) (.slice a3 q.2.granted.length c3) (.slice a4 q.2.ended.length c4))) (a2w Z w.heap.size (.int .i64 q.2.err) (.int .i64 0) (.int .i64 q.2.n) (.slice a1 l.length c1) (.slice a2 q.2.days.length c2) (.slice a3 q.2.granted.length c3) (.slice a4 q.2.ended.length c4))):=by
   have k7:=a2R Z w.heap.size (.int .i64 q.2.err) (.int .i64 0) (.int .i64 q.2.n) (.slice a1 l.length c1) (.slice a2 q.2.days.length c2) (.slice a3 q.2.granted.length c3) (.slice a4 q.2.ended.length c4);obtain⟨hT,h3,hD,hF',hO,hG,h3F,hsp,hS2,hw2,h72⟩:=A.out;refine⟨_,_,_,_,xs',F',by rw[h0],hT _ (fun b hb=>(k7.block b (zL (hG b hb).2.1 kZ.size) (fun e=>by have:=(hG b hb).1;simp at e;omega)).trans (kZ.block b (hG b hb).2.1)),NV.own (a1i (a1g h3 kZ) k7 (fun b hb e=>by have:=d0G h3 hb;simp at e;omega)),DZ.out.off k7 (fun x hx e=>hQF' (by simp at e;exact e ▸ hx)) (fun x hx e=>(hsp x hx).1 (by simpa using e)),fun k hk=>(hF' k hk).imp id (fun e=>by omega),WZ.out.trans' k7 (fun x hx=>.inr (by simp at hx;omega)),hS2⟩
  obtain⟨q0,q1,q2,q3,q4,q5,q6,fq⟩:=Q2.out;clear he A
  go_wp2_with fail
  exact d0O Tryz.results75 ⟨q0,q1,q2,q3,q4,q5,q6,fq⟩ (by rw[E9.out];exact HF.out)
variable {w:World}{B:Nat}{v0 v1 r1 r2 r3:Value}{K:List Nat}{X1 X2 X3:List KL}
theorem f1R:(Tryz.prog.info? tS).map (fun i=>(i.zero,i.size,i.bytes))=some (some (.agg #[.slice none 0 0,.slice none 0 0,.slice none 0 0,.slice none 0 0,.int .i64 0]),5,104):=by kernel_rfl
theorem g4r{m:Int}{k:Nat}(hk:k*2+1<xs.length):((rp (e4i m) k++xs.drop (k*2)).set (k*2) (.int .i64 m)).set (k*2+1) (.int .i64 m)=rp (e4i m) (k+1)++xs.drop ((k+1)*2):=by
 have hl:(rp (e4i m) k).length=k*2:=by rw[d4O];simp
 have e2:(k+1)*2=k*2+1+1:=by omega
 rw[List.set_append,if_neg (by omega),List.set_append,if_neg (by omega),hl,Nat.sub_self,Nat.add_sub_cancel_left,List.drop_eq_getElem_cons (by omega),List.drop_eq_getElem_cons hk,e6y,List.append_assoc,e2];rfl
theorem BK.kept2{l:Value}{m:Int}{e:TypeId}(h:BK w B v0 v1 K r1 r2 r3 X1 X2 X3)(h3:BK Z3 B v0 v1 K r1 r2 r3 X1 X2 X3)(hT:KF (e4i m) e wr Z3 l n Q o [(c,n+3),(b,n+2),(a,n+1),(l,n)])(hn:n<=900000)(R3:Off l.ownBlock.toList w Z3)(hw:w.heap.size<=wr.heap.size)(hlK:∀ b,l.ownBlock=some b->b ∉ K/\b ∉ bkB B r1 r2 r3)
  (k9:Off r2.ownBlock.toList Z3 w9) (o9:w9.ownsRow 0 tS 5 r' (X2.length+1) (X2.flatMap klV++klV (l,a,b,c,m))) (hat:g2M Z3 r2 r'):e5M w B v0 v1 K r1 r2 r3 l (X1.length+X2.length+X3.length) (w9.setCell ⟨B,3,none⟩ r') :=
 BK.kept hT R3 hw (by simp;omega) (fun q hq=>by
  simp only[bkB,List.mem_cons,List.mem_append,Option.mem_toList] at hq ⊢;rcases hq with rfl|hq|hq|hq
  ·exact .inl (.inl rfl)
  ·exact .inl (.inr (.inl hq))
  ·exact (hat q hq).imp (fun e=>.inr (.inr (.inl e))) id
  ·exact .inl (.inr (.inr (.inr hq)))) (h3.add2 (hT.k4 (P:=e4i) hn) (h.apart hT hw hlK) k9 o9 hat)
theorem e2e(h:BK w B v0 v1 K r1 r2 r3 X1 X2 X3)(h1:X1.length<=1000000000)(h2:X2.length<=1000000000)(h3:X3.length<=1000000000){l:Value}(hl:w.ownsRow 0 60 2 l n xs)(hn:n<=900000)(hlK:∀ b,l.ownBlock=some b->b ∉ K/\b ∉ bkB B r1 r2 r3):
  Calls Tryz.prog 121 #[.pointer (some ⟨B,2,none⟩),l] w fun e w'=>e=.returned (.tuple #[])/\e5M w B v0 v1 K r1 r2 r3 l (X1.length+X2.length+X3.length) w':=by
 obtain⟨i0,hi0,hz0,hz1,hz2⟩:=info_parts b6Q;obtain⟨j0,hj0,jz0,jz1,jz2⟩:=info_parts f1R;obtain⟨a,cp,rfl⟩:=c9y hl;have HB:=a0b h;have HL:=a0b hl;have HK:=a0b hlK;have HLT:=a0b (fun b (hb:(Value.slice a n cp).ownBlock=some b)=>c7O hl hb);have hxl:xs.length=n*2:=hl.1;clear h hl hlK
 go_enter Tryz.func121,Tryz.ntmps121
 go_upto_region 3 with (first|(go_at_call 184;refine (e1W HB.out h1 h2 h3).mono ?_;rintro e w1 ⟨rfl,hb⟩;have H1:=a0b hb;clear hb))
 generalize hmm:f8N X1 X2 X3=m;change Code.wp _ _ _ _ (w1.alloc (.cells #[.int .i64 m,.int .i64 m] 60));have HW:=a0b (a0j H1.out ((zr _ w1).alloc (zq _) (.cells #[.int .i64 m,.int .i64 m] 60)) (zq _));have hS:w1.heap.size ∉ (Value.slice a n cp).ownBlock.toList:=fun e=>by have:=HLT.out _ (by simpa using e);have:=H1.out.size;omega
 have BX:Hid (∀ Z,Off (Value.slice a n cp).ownBlock.toList (w1.alloc (.cells #[.int .i64 m,.int .i64 m] 60)) Z->Z.cell? ⟨w1.heap.size,0,none⟩=some (.int .i64 m)/\Z.cell? ⟨w1.heap.size,1,none⟩=some (.int .i64 m)):=fun Z k=>⟨k.cell hS (d0h (a0p w1 _) 0 rfl),k.cell hS (d0h (a0p w1 _) 1 rfl)⟩
 clear hS;generalize w1.alloc (.cells #[.int .i64 m,.int .i64 m] 60)=W1 at HW BX ⊢;generalize w1.heap.size=S at BX ⊢;have HL1:=a0b (a1g HL.out HW.out)
 go_loopw [6] (fun v wr=>∃ k:Nat,k<=n/\v=.int .i64 k/\wr.ownsRow 0 60 2 (.slice a n cp) n (rp (e4i m) k++xs.drop (k*2))/\Off (Value.slice a n cp).ownBlock.toList W1 wr) (fun v _=>n-(intOf v).toNat)
 case atStart=>exact⟨0,Nat.zero_le _,rfl,by simpa[e6x] using HL1.out,Off.refl _ _⟩
 case round =>
  obtain⟨k,hk,rfl,hown,hof⟩:=hrel;have HO:=a0b (And.intro hown hof)
  by_cases hlt:k<n
  ·have hlt':(k:Int)<(n:Int):=by omega
   obtain⟨y0,y1⟩:=BX.out _ hof;obtain⟨g,cap,u,e,c0,fz⟩:=d1o hown (k:=k*2) (by rw[List.length_append,d4O,List.length_drop];simp;omega);obtain⟨g',cap',u',e',c1,_⟩:=d1o hown (k:=k*2+1) (by rw[List.length_append,d4O,List.length_drop];simp;omega);rw[e] at e';simp only[Value.slice.injEq,Option.some.injEq,Addr.mk.injEq,and_true,true_and] at e';obtain⟨rfl,rfl⟩:=e';simp only[Value.slice.injEq,true_and] at e;obtain⟨rfl,rfl⟩:=e;have f0:=fz (k*2);have f1:=fz (k*2+1);clear hown hof
   go_wp2_with fail
   go_roundw
   case rel =>
    refine⟨k+1,by omega,by go_num,?_,(HO.out.2.setCell (.inl (by simp[Value.ownBlock])) _ _).setCell (.inl (by simp[Value.ownBlock])) _ _⟩;have:=d1L (d1L HO.out.1 (b:=g) rfl (k*2) (.int .i64 m)) (b:=g) rfl (k*2+1) (.int .i64 m);rw[g4r (by omega)] at this;exact this
   case measure=>simp[intOf];omega
  ·have hlt':¬ (k:Int)<(n:Int):=by omega
   have hkn:k=n:=by omega
   subst hkn
   have HR:Hid (wr.ownsRow 0 60 2 (.slice a k cp) k (rp (e4i m) k)):=by
    have:=HO.out.1;rw[List.drop_eq_nil_of_le (by omega),List.append_nil] at this;exact this
   clear hown hof;obtain⟨y0,y1⟩:=BX.out _ HO.out.2
   go_upto_region 7 with fail
   change Code.wp _ _ _ _ (wr.alloc (.cells #[.slice a k cp,.slice none 0 0,.slice none 0 0,.slice none 0 0,.int .i64 m] tS))
   have S0:Hid (KS (e4i m) 60 wr (wr.alloc (.cells #[.slice a k cp,.slice none 0 0,.slice none 0 0,.slice none 0 0,.int .i64 m] tS)) (.slice a k cp) k wr.heap.size (.cells #[.slice a k cp,.slice none 0 0,.slice none 0 0,.slice none 0 0,.int .i64 m] tS)) :=
    ⟨HR.out.alloc _,a0p _ _,Nat.le_refl _,(Off.refl _ _).alloc _,fun b hb=>c7O HR.out hb⟩
   have T0:Hid (KF (e4i m) 60 wr (wr.alloc (.cells #[.slice a k cp,.slice none 0 0,.slice none 0 0,.slice none 0 0,.int .i64 m] tS)) (.slice a k cp) k wr.heap.size (.cells #[.slice a k cp,.slice none 0 0,.slice none 0 0,.slice none 0 0,.int .i64 m] tS) [(.slice a k cp,k)]) :=
    ⟨S0.out,fun p hp=>by
     rw[List.mem_singleton.1 hp]
     exact⟨Fu.of_own S0.out.own,fun b hb=>⟨by have:=S0.out.lt b hb;omega,c7O S0.out.own hb,.inl hb⟩⟩⟩
   clear S0;generalize wr.alloc (.cells #[.slice a k cp,.slice none 0 0,.slice none 0 0,.slice none 0 0,.int .i64 m] tS)=Z0 at T0 ⊢;obtain⟨y0,y1⟩:=BX.out _ (HO.out.2.trans T0.out.ks.off)
   go_upto_region 8 with (first|(at_builtin;go_loud (refine d6c rfl _ _ 56 rfl (e4i m) 16 Tryz.underlying56 hi0 hz0 hz1 hz2 (by decide) rfl (by simp) (by simp[Value.oneCell']) T0.out.ks.own (m:=1) (cs:=#[.int .i64 m,.int .i64 m]) (by simp[rp]) (by decide) (by decide) rfl rfl (by omega) (zN _) ?_);intro g6 c6 w6 o6 ol6 f6 k6 at6;have q6:=d0h (T0.out.ks.at_ k6).1 1 rfl;have z6:=(T0.out.ks.at_ k6).2 1))
   have T1:=a0b (T0.out.put o6 ol6 f6 k6 at6 (by simp) 1);generalize w6.setCell ⟨wr.heap.size,1,none⟩ (.slice (some ⟨g6,0,none⟩) (k+1) c6)=Z1 at T1 ⊢;clear y0 y1 o6 ol6 f6 k6 at6 q6 z6 T0;obtain⟨y0,y1⟩:=BX.out _ (HO.out.2.trans T1.out.ks.off)
   go_upto_region 9 with (first|(at_builtin;go_loud (refine d6c rfl _ _ 56 rfl (e4i m) 16 Tryz.underlying56 hi0 hz0 hz1 hz2 (by decide) rfl (by simp) (by simp[Value.oneCell']) T1.out.ks.own (m:=2) (cs:=#[.int .i64 m,.int .i64 m,.int .i64 m,.int .i64 m]) (by simp[rp]) (by decide) (by decide) rfl rfl (by omega) (zN _) ?_);intro g7 c7 w7 o7 ol7 f7 k7 at7;have q7:=d0h (T1.out.ks.at_ k7).1 2 rfl;have z7:=(T1.out.ks.at_ k7).2 2))
   have T2:=a0b (T1.out.put o7 ol7 f7 k7 at7 (by simp) 2);generalize w7.setCell ⟨wr.heap.size,2,none⟩ (.slice (some ⟨g7,0,none⟩) (k+2) c7)=Z2 at T2 ⊢;clear y0 y1 o7 ol7 f7 k7 at7 q7 z7 T1;obtain⟨y0,y1⟩:=BX.out _ (HO.out.2.trans T2.out.ks.off)
   go_upto_region 10 with (first|(at_builtin;go_loud (refine d6c rfl _ _ 56 rfl (e4i m) 16 Tryz.underlying56 hi0 hz0 hz1 hz2 (by decide) rfl (by simp) (by simp[Value.oneCell']) T2.out.ks.own (m:=3) (cs:=#[.int .i64 m,.int .i64 m,.int .i64 m,.int .i64 m,.int .i64 m,.int .i64 m]) (by simp[rp]) (by decide) (by decide) rfl rfl (by omega) (zN _) ?_);intro g8 c8 w8 o8 ol8 f8 k8 at8;have q8:=d0h (T2.out.ks.at_ k8).1 3 rfl;have z8:=(T2.out.ks.at_ k8).2 3))
   have T3:=a0b (T2.out.put o8 ol8 f8 k8 at8 (by simp) 3);generalize w8.setCell ⟨wr.heap.size,3,none⟩ (.slice (some ⟨g8,0,none⟩) (k+3) c8)=Z3 at T3 ⊢;clear y0 y1 o8 ol8 f8 k8 at8 q8 z8 T2;have R3:Off (Value.slice a k cp).ownBlock.toList w Z3:=(Off.of_below HW.out).trans (HO.out.2.trans T3.out.ks.off);have HLK:=a0b (fun b (hb:b∈(Value.slice a k cp).ownBlock.toList)=>HK.out b (by simpa using hb));have B3:=a0b (HB.out.off R3 (fun b hb e=>(HLK.out b e).2 hb) (fun b hb e=>(HLK.out b e).1 hb));have HR3:=a0b R3;obtain⟨_,_,_,d2,_,fzB⟩:=B3.out.cells;obtain⟨_,⟨ra,rc,er⟩,_⟩:=B3.out.forms;subst er;have fB:=fzB 3;have s0:=d0h T3.out.ks.hq 0 rfl;have s1:=d0h T3.out.ks.hq 1 rfl;have s2:=d0h T3.out.ks.hq 2 rfl;have s3:=d0h T3.out.ks.hq 3 rfl;have s4:=d0h T3.out.ks.hq 4 rfl;have d2A:∀ o,(Z3.alloc o).cell? ⟨B,3,none⟩=some (.slice ra X2.length rc):=fun o=>a0a ((zr _ Z3).alloc (zq _) o) d2
   have DD:=a0b (fun o=>a1g B3.out.br.b2.own (((zr _ Z3).alloc (zq _) o).drew));have hBr:(Value.slice ra X2.length rc).ownBlock≠some B:=c8L B3.out.br.b2.own B3.out.hb (by decide);clear R3 fzB
   go_region_law (first
    |(refine step_append_lies _ rfl _ _ 81 rfl 0 tS j0 _ 5 104 Tryz.underlying81 hj0 jz0 jz1 jz2 rfl (by decide) (.slice ra X2.length rc) X2.length (X2.flatMap klV) rfl (DD.out _) ⟨Z3.heap.size,0,none⟩ 1 1 (klV (.slice a k cp,.slice (some ⟨g6,0,none⟩) (k+1) c6,.slice (some ⟨g7,0,none⟩) (k+2) c7,.slice (some ⟨g8,0,none⟩) (k+3) c8,m)) rfl rfl (World.news_of_block (cs:=(klV (.slice a k cp,.slice (some ⟨g6,0,none⟩) (k+1) c6,.slice (some ⟨g7,0,none⟩) (k+2) c7,.slice (some ⟨g8,0,none⟩) (k+3) c8,m)).toArray) (a0p Z3 _)) (by simp[klV,Value.oneCell']) (by omega) (by unfold maxLen;omega) (by omega) (zN _) (Z3.heap.size+1) (by simp) ?_;intro g9 c9 w9 o9 hgrow at9 hlt9;have k9:Off ((Value.slice ra X2.length rc).ownBlock.toList) Z3 w9:=Off.grown (((Off.refl _ Z3).alloc _).drew) hgrow (fun k hk=>.inl (by simp[hk]));have d9:=k9.cell (fun e=>hBr (by simpa using e)) d2;have f9:=(k9.frozen (fun e=>hBr (by simpa using e)) (World.block_lt_of_cell? _ _ d2)).trans fB))
   all_goals
    go_wp2_with fail
    (try simp only[Exit.inBlock,Exit.then]);refine bodyPost_end (results_none rfl _ _ _) rfl ?_
    refine⟨rfl,HB.out.kept2 B3.out T3.out hn HR3.out (Nat.le_trans HW.out.size HO.out.2.size) HK.out k9 o9 (fun b hb=>by
     simp[Value.ownBlock] at hb;subst hb
     exact at9.imp id (fun e=>by omega))⟩
variable {w:World}{B:Nat}{v0 v1 r1 r2 r3:Value}{K:List Nat}{X1 X2 X3:List KL}
theorem e4K:(Tryz.prog.info? tE).map (fun i=>(i.zero,i.size,i.bytes))=some (some (.agg #[.slice none 0 0,.slice none 0 0,.slice none 0 0,.slice none 0 0,.int .i64 0]),5,104):=by kernel_rfl
theorem f1S:(Tryz.prog.info? 58).map (fun i=>(i.zero,i.size,i.bytes))=some (some (.agg #[.int .i64 0,.int .i64 0,.string ⟨#[]⟩,.int .i64 0,.slice none 0 0,.int .i64 0]),6,72):=by kernel_rfl
theorem g4q{m:Int}{k:Nat}(hk:k*6+5<xs.length):((((((rp (e0j m) k++xs.drop (k*6)).set (k*6) (.int .i64 m)).set (k*6+1) (.int .i64 0)).set (k*6+2) (.string ⟨#[]⟩)).set (k*6+3) (.int .i64 m)).set (k*6+4) (.slice none 0 0)).set (k*6+5) (.int .i64 0)=rp (e0j m) (k+1)++xs.drop ((k+1)*6):=by
 have hl:(rp (e0j m) k).length=k*6:=by rw[d4O];simp
 have e2:(k+1)*6=k*6+1+1+1+1+1+1:=by omega
 rw[List.drop_eq_getElem_cons (show k*6<xs.length by omega),List.drop_eq_getElem_cons (show k*6+1<xs.length by omega),List.drop_eq_getElem_cons (show k*6+1+1<xs.length by omega),List.drop_eq_getElem_cons (show k*6+1+1+1<xs.length by omega),List.drop_eq_getElem_cons (show k*6+1+1+1+1<xs.length by omega),List.drop_eq_getElem_cons (show k*6+1+1+1+1+1<xs.length by omega),e6y,List.append_assoc,e2];generalize rp (e0j m) k=A at *
 subst_vars
 simp only[<- hl,List.set_append,Nat.lt_irrefl,if_false,Nat.sub_self,Nat.not_lt_of_le (Nat.le_add_right _ _),Nat.add_sub_cancel_left];rfl
theorem BK.kept3{l:Value}{m:Int}{e:TypeId}(h:BK w B v0 v1 K r1 r2 r3 X1 X2 X3)(h3:BK Z3 B v0 v1 K r1 r2 r3 X1 X2 X3)(hT:KF (e0j m) e wr Z3 l n Q o [(c,n+3),(b,n+2),(a,n+1),(l,n)])(hn:n<=900000)(R3:Off l.ownBlock.toList w Z3)(hw:w.heap.size<=wr.heap.size)(hlK:∀ b,l.ownBlock=some b->b ∉ K/\b ∉ bkB B r1 r2 r3)
  (k9:Off r3.ownBlock.toList Z3 w9) (o9:w9.ownsRow 0 tE 5 r' (X3.length+1) (X3.flatMap klV++klV (l,a,b,c,m))) (hat:g2M Z3 r3 r'):e5M w B v0 v1 K r1 r2 r3 l (X1.length+X2.length+X3.length) (w9.setCell ⟨B,4,none⟩ r') :=
 BK.kept hT R3 hw (by simp;omega) (fun q hq=>by
  simp only[bkB,List.mem_cons,List.mem_append,Option.mem_toList] at hq ⊢;rcases hq with rfl|hq|hq|hq
  ·exact .inl (.inl rfl)
  ·exact .inl (.inr (.inl hq))
  ·exact .inl (.inr (.inr (.inl hq)))
  ·exact (hat q hq).imp (fun e=>.inr (.inr (.inr e))) id) (h3.add3 (hT.k4 (P:=e0j) hn) (h.apart hT hw hlK) k9 o9 hat)
theorem d8E(h:BK w B v0 v1 K r1 r2 r3 X1 X2 X3)(h1:X1.length<=1000000000)(h2:X2.length<=1000000000)(h3:X3.length<=1000000000){l:Value}(hl:w.ownsRow 0 58 6 l n xs)(hn:n<=900000)(hlK:∀ b,l.ownBlock=some b->b ∉ K/\b ∉ bkB B r1 r2 r3):
  Calls Tryz.prog 122 #[.pointer (some ⟨B,2,none⟩),l] w fun e w'=>e=.returned (.tuple #[])/\e5M w B v0 v1 K r1 r2 r3 l (X1.length+X2.length+X3.length) w':=by
 obtain⟨i0,hi0,hz0,hz1,hz2⟩:=info_parts f1S;obtain⟨j0,hj0,jz0,jz1,jz2⟩:=info_parts e4K;obtain⟨a,cp,rfl⟩:=c9y hl;have HB:=a0b h;have HL:=a0b hl;have HK:=a0b hlK;have HLT:=a0b (fun b (hb:(Value.slice a n cp).ownBlock=some b)=>c7O hl hb);have hxl:xs.length=n*6:=hl.1;clear h hl hlK
 go_enter Tryz.func122,Tryz.ntmps122
 go_upto_region 3 with (first|(go_at_call 184;refine (e1W HB.out h1 h2 h3).mono ?_;rintro e w1 ⟨rfl,hb⟩;have H1:=a0b hb;clear hb))
 generalize hmm:f8N X1 X2 X3=m;change Code.wp _ _ _ _ (w1.alloc (.cells #[.int .i64 m,.int .i64 0,.string ⟨#[]⟩,.int .i64 m,.slice none 0 0,.int .i64 0] 58));have HW:=a0b (a0j H1.out ((zr _ w1).alloc (zq _) (.cells #[.int .i64 m,.int .i64 0,.string ⟨#[]⟩,.int .i64 m,.slice none 0 0,.int .i64 0] 58)) (zq _));have hS:w1.heap.size ∉ (Value.slice a n cp).ownBlock.toList:=fun e=>by have:=HLT.out _ (by simpa using e);have:=H1.out.size;omega
 have BX:Hid (∀ Z,Off (Value.slice a n cp).ownBlock.toList (w1.alloc (.cells #[.int .i64 m,.int .i64 0,.string ⟨#[]⟩,.int .i64 m,.slice none 0 0,.int .i64 0] 58)) Z->Z.cell? ⟨w1.heap.size,0,none⟩=some (.int .i64 m)/\Z.cell? ⟨w1.heap.size,1,none⟩=some (.int .i64 0)/\Z.cell? ⟨w1.heap.size,2,none⟩=some (.string ⟨#[]⟩)/\Z.cell? ⟨w1.heap.size,3,none⟩=some (.int .i64 m)/\Z.cell? ⟨w1.heap.size,4,none⟩=some (.slice none 0 0)/\Z.cell? ⟨w1.heap.size,5,none⟩=some (.int .i64 0)):=fun Z k=>⟨k.cell hS (d0h (a0p w1 _) 0 rfl),k.cell hS (d0h (a0p w1 _) 1 rfl),k.cell hS (d0h (a0p w1 _) 2 rfl),k.cell hS (d0h (a0p w1 _) 3 rfl),k.cell hS (d0h (a0p w1 _) 4 rfl),k.cell hS (d0h (a0p w1 _) 5 rfl)⟩
 clear hS;generalize w1.alloc (.cells #[.int .i64 m,.int .i64 0,.string ⟨#[]⟩,.int .i64 m,.slice none 0 0,.int .i64 0] 58)=W1 at HW BX ⊢;generalize w1.heap.size=S at BX ⊢;have HL1:=a0b (a1g HL.out HW.out)
 go_loopw [6] (fun v wr=>∃ k:Nat,k<=n/\v=.int .i64 k/\wr.ownsRow 0 58 6 (.slice a n cp) n (rp (e0j m) k++xs.drop (k*6))/\Off (Value.slice a n cp).ownBlock.toList W1 wr) (fun v _=>n-(intOf v).toNat)
 case atStart=>exact⟨0,Nat.zero_le _,rfl,by simpa[e6x] using HL1.out,Off.refl _ _⟩
 case round =>
  obtain⟨k,hk,rfl,hown,hof⟩:=hrel;have HO:=a0b (And.intro hown hof)
  by_cases hlt:k<n
  ·have hlt':(k:Int)<(n:Int):=by omega
   obtain⟨y0,y1,y2,y3,y4,y5⟩:=BX.out _ hof;have hlen:(rp (e0j m) k++xs.drop (k*6)).length=n*6:=by rw[List.length_append,d4O,List.length_drop];simp;omega
   obtain⟨g,cap,u,e,c0,fz⟩:=d1o hown (k:=k*6) (by omega);obtain⟨g',cap',u1,e',c1,_⟩:=d1o hown (k:=k*6+1) (by omega);rw[e] at e';simp only[Value.slice.injEq,Option.some.injEq,Addr.mk.injEq,and_true,true_and] at e';obtain⟨rfl,rfl⟩:=e';obtain⟨g',cap',u2,e',c2,_⟩:=d1o hown (k:=k*6+2) (by omega);rw[e] at e';simp only[Value.slice.injEq,Option.some.injEq,Addr.mk.injEq,and_true,true_and] at e';obtain⟨rfl,rfl⟩:=e';obtain⟨g',cap',u3,e',c3,_⟩:=d1o hown (k:=k*6+3) (by omega);rw[e] at e';simp only[Value.slice.injEq,Option.some.injEq,Addr.mk.injEq,and_true,true_and] at e';obtain⟨rfl,rfl⟩:=e';obtain⟨g',cap',u4,e',c4,_⟩:=d1o hown (k:=k*6+4) (by omega);rw[e] at e';simp only[Value.slice.injEq,Option.some.injEq,Addr.mk.injEq,and_true,true_and] at e';obtain⟨rfl,rfl⟩:=e';obtain⟨g',cap',u5,e',c5,_⟩:=d1o hown (k:=k*6+5) (by omega);rw[e] at e';simp only[Value.slice.injEq,Option.some.injEq,Addr.mk.injEq,and_true,true_and] at e';obtain⟨rfl,rfl⟩:=e';simp only[Value.slice.injEq,true_and] at e;obtain⟨rfl,rfl⟩:=e;have f0:=fz (k*6);have f1:=fz (k*6+1);have f2:=fz (k*6+2);have f3:=fz (k*6+3);have f4:=fz (k*6+4);have f5:=fz (k*6+5);clear hown hof
   go_wp2_with fail
   go_roundw
   case rel =>
    refine⟨k+1,by omega,by go_num,?_,(((((HO.out.2.setCell (.inl (by simp[Value.ownBlock])) _ _).setCell (.inl (by simp[Value.ownBlock])) _ _).setCell (.inl (by simp[Value.ownBlock])) _ _).setCell (.inl (by simp[Value.ownBlock])) _ _).setCell (.inl (by simp[Value.ownBlock])) _ _).setCell (.inl (by simp[Value.ownBlock])) _ _⟩;have:=(d1L (d1L (d1L (d1L (d1L (d1L HO.out.1 (b:=g) rfl (k*6) (.int .i64 m)) (b:=g) rfl (k*6+1) (.int .i64 0)) (b:=g) rfl (k*6+2) (.string ⟨#[]⟩)) (b:=g) rfl (k*6+3) (.int .i64 m)) (b:=g) rfl (k*6+4) (.slice none 0 0)) (b:=g) rfl (k*6+5) (.int .i64 0));rw[g4q (by omega)] at this;exact this
   case measure=>simp[intOf];omega
  ·have hlt':¬ (k:Int)<(n:Int):=by omega
   have hkn:k=n:=by omega
   subst hkn
   have HR:Hid (wr.ownsRow 0 58 6 (.slice a k cp) k (rp (e0j m) k)):=by
    have:=HO.out.1;rw[List.drop_eq_nil_of_le (by omega),List.append_nil] at this;exact this
   clear hown hof;obtain⟨y0,y1,y2,y3,y4,y5⟩:=BX.out _ HO.out.2
   go_upto_region 7 with fail
   change Code.wp _ _ _ _ (wr.alloc (.cells #[.slice a k cp,.slice none 0 0,.slice none 0 0,.slice none 0 0,.int .i64 m] tE))
   have S0:Hid (KS (e0j m) 58 wr (wr.alloc (.cells #[.slice a k cp,.slice none 0 0,.slice none 0 0,.slice none 0 0,.int .i64 m] tE)) (.slice a k cp) k wr.heap.size (.cells #[.slice a k cp,.slice none 0 0,.slice none 0 0,.slice none 0 0,.int .i64 m] tE)) :=
    ⟨HR.out.alloc _,a0p _ _,Nat.le_refl _,(Off.refl _ _).alloc _,fun b hb=>c7O HR.out hb⟩
   have T0:Hid (KF (e0j m) 58 wr (wr.alloc (.cells #[.slice a k cp,.slice none 0 0,.slice none 0 0,.slice none 0 0,.int .i64 m] tE)) (.slice a k cp) k wr.heap.size (.cells #[.slice a k cp,.slice none 0 0,.slice none 0 0,.slice none 0 0,.int .i64 m] tE) [(.slice a k cp,k)]) :=
    ⟨S0.out,fun p hp=>by
     rw[List.mem_singleton.1 hp]
     exact⟨Fu.of_own S0.out.own,fun b hb=>⟨by have:=S0.out.lt b hb;omega,c7O S0.out.own hb,.inl hb⟩⟩⟩
   clear S0;generalize wr.alloc (.cells #[.slice a k cp,.slice none 0 0,.slice none 0 0,.slice none 0 0,.int .i64 m] tE)=Z0 at T0 ⊢;obtain⟨y0,y1,y2,y3,y4,y5⟩:=BX.out _ (HO.out.2.trans T0.out.ks.off)
   go_upto_region 8 with (first|(at_builtin;go_loud (refine d6c rfl _ _ 34 rfl (e0j m) 72 Tryz.underlying34 hi0 hz0 hz1 hz2 (by decide) rfl (by simp) (by simp[Value.oneCell']) T0.out.ks.own (m:=1) (cs:=#[.int .i64 m,.int .i64 0,.string ⟨#[]⟩,.int .i64 m,.slice none 0 0,.int .i64 0]) (by simp[rp]) (by decide) (by decide) rfl rfl (by omega) (zN _) ?_);intro g6 c6 w6 o6 ol6 f6 k6 at6;have q6:=d0h (T0.out.ks.at_ k6).1 1 rfl;have z6:=(T0.out.ks.at_ k6).2 1))
   have T1:=a0b (T0.out.put o6 ol6 f6 k6 at6 (by simp) 1);generalize w6.setCell ⟨wr.heap.size,1,none⟩ (.slice (some ⟨g6,0,none⟩) (k+1) c6)=Z1 at T1 ⊢;clear y0 y1 y2 y3 y4 y5 o6 ol6 f6 k6 at6 q6 z6 T0;obtain⟨y0,y1,y2,y3,y4,y5⟩:=BX.out _ (HO.out.2.trans T1.out.ks.off)
   go_upto_region 9 with (first|(at_builtin;go_loud (refine d6c rfl _ _ 34 rfl (e0j m) 72 Tryz.underlying34 hi0 hz0 hz1 hz2 (by decide) rfl (by simp) (by simp[Value.oneCell']) T1.out.ks.own (m:=2) (cs:=#[.int .i64 m,.int .i64 0,.string ⟨#[]⟩,.int .i64 m,.slice none 0 0,.int .i64 0,.int .i64 m,.int .i64 0,.string ⟨#[]⟩,.int .i64 m,.slice none 0 0,.int .i64 0]) (by simp[rp]) (by decide) (by decide) rfl rfl (by omega) (zN _) ?_);intro g7 c7 w7 o7 ol7 f7 k7 at7;have q7:=d0h (T1.out.ks.at_ k7).1 2 rfl;have z7:=(T1.out.ks.at_ k7).2 2))
   have T2:=a0b (T1.out.put o7 ol7 f7 k7 at7 (by simp) 2);generalize w7.setCell ⟨wr.heap.size,2,none⟩ (.slice (some ⟨g7,0,none⟩) (k+2) c7)=Z2 at T2 ⊢;clear y0 y1 y2 y3 y4 y5 o7 ol7 f7 k7 at7 q7 z7 T1;obtain⟨y0,y1,y2,y3,y4,y5⟩:=BX.out _ (HO.out.2.trans T2.out.ks.off)
   go_upto_region 10 with (first|(at_builtin;go_loud (refine d6c rfl _ _ 34 rfl (e0j m) 72 Tryz.underlying34 hi0 hz0 hz1 hz2 (by decide) rfl (by simp) (by simp[Value.oneCell']) T2.out.ks.own (m:=3) (cs:=#[.int .i64 m,.int .i64 0,.string ⟨#[]⟩,.int .i64 m,.slice none 0 0,.int .i64 0,.int .i64 m,.int .i64 0,.string ⟨#[]⟩,.int .i64 m,.slice none 0 0,.int .i64 0,.int .i64 m,.int .i64 0,.string ⟨#[]⟩,.int .i64 m,.slice none 0 0,.int .i64 0]) (by simp[rp]) (by decide) (by decide) rfl rfl (by omega) (zN _) ?_);intro g8 c8 w8 o8 ol8 f8 k8 at8;have q8:=d0h (T2.out.ks.at_ k8).1 3 rfl;have z8:=(T2.out.ks.at_ k8).2 3))
   have T3:=a0b (T2.out.put o8 ol8 f8 k8 at8 (by simp) 3);generalize w8.setCell ⟨wr.heap.size,3,none⟩ (.slice (some ⟨g8,0,none⟩) (k+3) c8)=Z3 at T3 ⊢;clear y0 y1 y2 y3 y4 y5 o8 ol8 f8 k8 at8 q8 z8 T2;have R3:Off (Value.slice a k cp).ownBlock.toList w Z3:=(Off.of_below HW.out).trans (HO.out.2.trans T3.out.ks.off);have HLK:=a0b (fun b (hb:b∈(Value.slice a k cp).ownBlock.toList)=>HK.out b (by simpa using hb));have B3:=a0b (HB.out.off R3 (fun b hb e=>(HLK.out b e).2 hb) (fun b hb e=>(HLK.out b e).1 hb));have HR3:=a0b R3;obtain⟨_,_,_,_,d2,fzB⟩:=B3.out.cells;obtain⟨_,_,ra,rc,er⟩:=B3.out.forms;subst er;have fB:=fzB 4;have s0:=d0h T3.out.ks.hq 0 rfl;have s1:=d0h T3.out.ks.hq 1 rfl;have s2:=d0h T3.out.ks.hq 2 rfl;have s3:=d0h T3.out.ks.hq 3 rfl;have s4:=d0h T3.out.ks.hq 4 rfl;have d2A:∀ o,(Z3.alloc o).cell? ⟨B,4,none⟩=some (.slice ra X3.length rc):=fun o=>a0a ((zr _ Z3).alloc (zq _) o) d2
   have DD:=a0b (fun o=>a1g B3.out.br.b3.own (((zr _ Z3).alloc (zq _) o).drew));have hBr:(Value.slice ra X3.length rc).ownBlock≠some B:=c8L B3.out.br.b3.own B3.out.hb (by decide);clear R3 fzB
   go_region_law (first
    |(refine step_append_lies _ rfl _ _ 82 rfl 0 tE j0 _ 5 104 Tryz.underlying82 hj0 jz0 jz1 jz2 rfl (by decide) (.slice ra X3.length rc) X3.length (X3.flatMap klV) rfl (DD.out _) ⟨Z3.heap.size,0,none⟩ 1 1 (klV (.slice a k cp,.slice (some ⟨g6,0,none⟩) (k+1) c6,.slice (some ⟨g7,0,none⟩) (k+2) c7,.slice (some ⟨g8,0,none⟩) (k+3) c8,m)) rfl rfl (World.news_of_block (cs:=(klV (.slice a k cp,.slice (some ⟨g6,0,none⟩) (k+1) c6,.slice (some ⟨g7,0,none⟩) (k+2) c7,.slice (some ⟨g8,0,none⟩) (k+3) c8,m)).toArray) (a0p Z3 _)) (by simp[klV,Value.oneCell']) (by omega) (by unfold maxLen;omega) (by omega) (zN _) (Z3.heap.size+1) (by simp) ?_;intro g9 c9 w9 o9 hgrow at9 hlt9;have k9:Off ((Value.slice ra X3.length rc).ownBlock.toList) Z3 w9:=Off.grown (((Off.refl _ Z3).alloc _).drew) hgrow (fun k hk=>.inl (by simp[hk]));have d9:=k9.cell (fun e=>hBr (by simpa using e)) d2;have f9:=(k9.frozen (fun e=>hBr (by simpa using e)) (World.block_lt_of_cell? _ _ d2)).trans fB))
   all_goals
    go_wp2_with fail
    (try simp only[Exit.inBlock,Exit.then]);refine bodyPost_end (results_none rfl _ _ _) rfl ?_
    refine⟨rfl,HB.out.kept3 B3.out T3.out hn HR3.out (Nat.le_trans HW.out.size HO.out.2.size) HK.out k9 o9 (fun b hb=>by
     simp[Value.ownBlock] at hb;subst hb
     exact at9.imp id (fun e=>by omega))⟩
open Desk (Ent)
variable {w w1 w2:World}{B:Nat}{v0 v1 r1 r2 r3 q1 q2 q3:Value}{K K1 L:List Nat}{X1 X2 X3 Y1 Y2 Y3:List KL}{m:Nat}
structure KBk(w:World)(B:Nat)(v0 v1:Value)(K:List Nat)(r1 r2 r3:Value)(L:List Nat)(m:Nat)(w1:World)(K1:List Nat)(q1 q2 q3:Value)(Y1 Y2 Y3:List KL):Prop where
 bk:BK w1 B v0 v1 K1 q1 q2 q3 Y1 Y2 Y3
 len:Y1.length+Y2.length+Y3.length=m
 off:Off (L++bkB B r1 r2 r3) w w1
 kk:∀ b∈K1,b∈K\/b∈L\/w.heap.size<=b
 rr:∀ b∈bkB B q1 q2 q3,b∈bkB B r1 r2 r3\/w.heap.size<=b
theorem KBk.refl(h:BK w B v0 v1 K r1 r2 r3 X1 X2 X3):KBk w B v0 v1 K r1 r2 r3 [] (X1.length+X2.length+X3.length) w K r1 r2 r3 X1 X2 X3:=⟨h,rfl,Off.refl _ _,fun _ hb=>.inl hb,fun _ hb=>.inl hb⟩
theorem KBk.step(h:KBk w B v0 v1 K r1 r2 r3 L m w1 K1 q1 q2 q3 Y1 Y2 Y3){l:Value}(k:e5M w1 B v0 v1 K1 q1 q2 q3 l (Y1.length+Y2.length+Y3.length) w2):∃ K2 p1 p2 p3 Z1 Z2 Z3,KBk w B v0 v1 K r1 r2 r3 (L++l.ownBlock.toList) (m+1) w2 K2 p1 p2 p3 Z1 Z2 Z3:=by
 obtain⟨K2,p1,p2,p3,Z1,Z2,Z3,k1,k2,k3,k4,k5⟩:=k;have hs:=h.off.size;refine⟨K2,p1,p2,p3,Z1,Z2,Z3,k1,by rw[k2,h.len],?_,fun b hb=>?_,fun b hb=>?_⟩
 ·refine (h.off.mono fun x hx=>?_).trans' k3 fun x hx=>?_
  ·rcases List.mem_append.1 hx with hx|hx
   ·exact List.mem_append_left _ (List.mem_append_left _ hx)
   ·exact List.mem_append_right _ hx
  ·rcases List.mem_append.1 hx with hx|hx
   ·exact .inl (List.mem_append_left _ (List.mem_append_right _ hx))
   ·exact (h.rr x hx).imp (fun e=>List.mem_append_right _ e) id
 ·rcases k4 b hb with e|e|e
  ·rcases h.kk b e with e|e|e
   ·exact .inl e
   ·exact .inr (.inl (List.mem_append_left _ e))
   ·exact .inr (.inr e)
  ·exact .inr (.inl (List.mem_append_right _ (by simpa using e)))
  ·exact .inr (.inr (by omega))
 ·rcases k5 b hb with e|e
  ·exact h.rr b e
  ·exact .inr (by omega)
theorem KBk.free(h:KBk w B v0 v1 K r1 r2 r3 L m w1 K1 q1 q2 q3 Y1 Y2 Y3){l:Value}(hl:∀ b,l.ownBlock=some b->b<w.heap.size/\b ∉ K/\b ∉ bkB B r1 r2 r3/\b ∉ L):∀ b,l.ownBlock=some b->b ∉ K1/\b ∉ bkB B q1 q2 q3:=fun b hb=>by
 obtain⟨h1,h2,h3,h4⟩:=hl b hb;refine⟨fun e=>?_,fun e=>?_⟩
 ·rcases h.kk b e with e|e|e
  ·exact h2 e
  ·exact h4 e
  ·omega
 ·rcases h.rr b e with e|e
  ·exact h3 e
  ·omega
theorem KBk.own(h:KBk w B v0 v1 K r1 r2 r3 L m w1 K1 q1 q2 q3 Y1 Y2 Y3){l:Value}{t:Nat}(ho:w.ownsRow 0 t z l n xs)(hl:∀ b,l.ownBlock=some b->b<w.heap.size/\b ∉ K/\b ∉ bkB B r1 r2 r3/\b ∉ L):w1.ownsRow 0 t z l n xs :=
 a1i ho h.off fun b hb e=>by
  rcases List.mem_append.1 e with e|e
  ·exact (hl b hb).2.2.2 e
  ·exact (hl b hb).2.2.1 e
theorem KBk.len3(h:KBk w B v0 v1 K r1 r2 r3 L m w1 K1 q1 q2 q3 Y1 Y2 Y3)(hm:m<=1000000000):Y1.length<=1000000000/\Y2.length<=1000000000/\Y3.length<=1000000000:=by
 have:=h.len;omega
structure d9C(w:World)(K:List Nat)(N:List Nat)(u1 u2 u3 u4:Value)(l:List (Ent × Value))(d g e:List Int):Prop where
 en:w.ownsRow 0 58 6 u1 l.length (l.flatMap a1f)
 sp:∀ p∈l,w.ownsRow 0 60 2 p.2 p.1.a0e.length (p.1.a0e.flatMap spV)
 da:w.ownsRow 0 3 1 u2 d.length (d.map (Value.int .i64))
 gr:w.ownsRow 0 3 1 u3 g.length (g.map (Value.int .i64))
 ed:w.ownsRow 0 3 1 u4 e.length (e.map (Value.int .i64))
 pw:l.Pairwise fun p q=>∀ b,p.2.ownBlock=some b->q.2.ownBlock≠some b
 dg:∀ b,u2.ownBlock=some b->u3.ownBlock≠some b/\u4.ownBlock≠some b
 ge:∀ b,u3.ownBlock=some b->u4.ownBlock≠some b
 no:∀ b,(u1.ownBlock=some b\/u2.ownBlock=some b\/u3.ownBlock=some b\/u4.ownBlock=some b\/∃ p∈l,p.2.ownBlock=some b)->b ∉ K/\b ∉ N
def spB(l:List (Ent × Value)):List Nat:=l.flatMap fun p=>p.2.ownBlock.toList
def rlB(u1 u2 u3 u4:Value)(l:List (Ent × Value)):List Nat:=spB l++u1.ownBlock.toList++u2.ownBlock.toList++u3.ownBlock.toList++u4.ownBlock.toList
theorem d8h{l:List (Ent × Value)}{b:Nat}(h:b∈spB l):∃ p∈l,p.2.ownBlock=some b:=by
 obtain⟨p,hp,hb⟩:=List.mem_flatMap.1 h;exact⟨p,hp,by simpa using hb⟩
theorem g1i{l:List (Ent × Value)}{k:Nat}(hk:k<l.length):(l.flatMap a1f)[k*6+4]?=some (l[k]).2:=by
 induction l generalizing k with
 |nil=>simp at hk
 |cons a r ih =>
  cases k with
  |zero=>simp[a1f]
  |succ k =>
   have:=ih (k:=k) (by simpa using hk);rw[List.flatMap_cons,List.getElem?_append_right (by simp[a1f];omega)];simp only[a1f,List.length_cons,List.length_nil,List.getElem_cons_succ];rw[<- this]
   congr 1
   omega
section
variable {u1 u2 u3 u4:Value}{l:List (Ent × Value)}{d g e:List Int}
theorem d9C.spf(h:d9C w K (bkB B r1 r2 r3) u1 u2 u3 u4 l d g e){k:Nat}(hk:k<l.length):∀ b,(l[k]).2.ownBlock=some b->b<w.heap.size/\b ∉ K/\b ∉ bkB B r1 r2 r3/\b ∉ spB (l.take k):=fun b hb=>by
 have hm:=zg hk;obtain⟨n1,n2⟩:=h.no b (.inr (.inr (.inr (.inr ⟨_,hm,hb⟩))));refine⟨c7O (h.sp _ hm) hb,n1,n2,fun hx=>?_⟩;obtain⟨p,hp,hpb⟩:=d8h hx;obtain⟨i,hi,rfl⟩:=List.mem_iff_getElem.1 hp;rw[List.length_take] at hi;rw[List.getElem_take] at hpb;exact List.pairwise_iff_getElem.1 h.pw i k (by omega) hk (by omega) b hpb hb
theorem d9C.enf(h:d9C w K (bkB B r1 r2 r3) u1 u2 u3 u4 l d g e):∀ b,u1.ownBlock=some b->b<w.heap.size/\b ∉ K/\b ∉ bkB B r1 r2 r3/\b ∉ spB l:=fun b hb=>by
 obtain⟨n1,n2⟩:=h.no b (.inl hb);refine⟨c7O h.en hb,n1,n2,fun hx=>?_⟩;obtain⟨p,hp,hpb⟩:=d8h hx;exact e1D h.en (h.sp p hp) (by decide) hb hpb
theorem d9C.spI(h:d9C w K (bkB B r1 r2 r3) u1 u2 u3 u4 l d g e)(ho:w.ownsRow 0 3 1 u n xs){b:Nat}(hb:u.ownBlock=some b):b ∉ spB l++u1.ownBlock.toList:=fun hx=>by
 rcases List.mem_append.1 hx with hx|hx
 ·obtain⟨p,hp,hpb⟩:=d8h hx;exact e1D ho (h.sp p hp) (by decide) hb hpb
 ·exact e1D ho h.en (by decide) hb (by simpa using hx)
theorem d9C.daf(h:d9C w K (bkB B r1 r2 r3) u1 u2 u3 u4 l d g e):∀ b,u2.ownBlock=some b->b<w.heap.size/\b ∉ K/\b ∉ bkB B r1 r2 r3/\b ∉ spB l++u1.ownBlock.toList:=fun b hb=>by
 obtain⟨n1,n2⟩:=h.no b (.inr (.inl hb));exact⟨c7O h.da hb,n1,n2,h.spI h.da hb⟩
theorem d9C.grf(h:d9C w K (bkB B r1 r2 r3) u1 u2 u3 u4 l d g e):∀ b,u3.ownBlock=some b->b<w.heap.size/\b ∉ K/\b ∉ bkB B r1 r2 r3/\b ∉ spB l++u1.ownBlock.toList++u2.ownBlock.toList:=fun b hb=>by
 obtain⟨n1,n2⟩:=h.no b (.inr (.inr (.inl hb)));refine⟨c7O h.gr hb,n1,n2,fun hx=>?_⟩;rcases List.mem_append.1 hx with hx|hx
 ·exact h.spI h.gr hb hx
 ·exact (h.dg b (by simpa using hx)).1 hb
theorem d9C.edf(h:d9C w K (bkB B r1 r2 r3) u1 u2 u3 u4 l d g e):∀ b,u4.ownBlock=some b->b<w.heap.size/\b ∉ K/\b ∉ bkB B r1 r2 r3/\b ∉ spB l++u1.ownBlock.toList++u2.ownBlock.toList++u3.ownBlock.toList:=fun b hb=>by
 obtain⟨n1,n2⟩:=h.no b (.inr (.inr (.inr (.inl hb))));refine⟨c7O h.ed hb,n1,n2,fun hx=>?_⟩;rcases List.mem_append.1 hx with hx|hx
 ·rcases List.mem_append.1 hx with hx|hx
  ·exact h.spI h.ed hb hx
  ·exact (h.dg b (by simpa using hx)).2 hb
 ·exact h.ge b (by simpa using hx) hb
theorem d9C.later(h:d9C w K L u1 u2 u3 u4 l d g e)(k:Below w.heap.size w w1):d9C w1 K L u1 u2 u3 u4 l d g e :=
 ⟨a1g h.en k,fun p hp=>a1g (h.sp p hp) k,a1g h.da k,a1g h.gr k,a1g h.ed k,h.pw,h.dg,h.ge,h.no⟩
theorem d9C.lt(h:d9C w K L u1 u2 u3 u4 l d g e):∀ b∈rlB u1 u2 u3 u4 l,b<w.heap.size:=fun b hb=>by
 simp only[rlB,List.mem_append,Option.mem_toList] at hb;rcases hb with (((hb|hb)|hb)|hb)|hb
 ·obtain⟨p,hp,hpb⟩:=d8h hb;exact c7O (h.sp p hp) hpb
 ·exact c7O h.en hb
 ·exact c7O h.da hb
 ·exact c7O h.gr hb
 ·exact c7O h.ed hb
theorem e4k{t:Nat}(h:W.ownsRow b0 t z v n xs){k:Nat}(hk:xs[k]?=some u):∃ g cap,v=.slice (some ⟨g,0,none⟩) n cap/\W.cell? ⟨g,k,none⟩=some u:=by
 rcases h.2 with ⟨rfl,rfl⟩|⟨g,cap,cur,rfl,_,hh,_⟩
 ·have:=h.1;rw[Nat.zero_mul,List.length_eq_zero_iff] at this;simp[this] at hk
 ·exact⟨g,cap,rfl,(f6U g k) ▸ h.cells (g:=g) rfl k u hk⟩
theorem f8d{l:List (Ent × Value)}{k:Nat}(hk:k<l.length):spB (l.take (k+1))=spB (l.take k)++(l[k]).2.ownBlock.toList:=by
 unfold spB;rw[List.take_succ_eq_append_getElem hk,List.flatMap_append];simp
theorem f3I{l:List (Ent × Value)}{k b:Nat}(h:b∈spB (l.take k)):b∈spB l:=by
 obtain⟨p,hp,hb⟩:=List.mem_flatMap.1 h;exact List.mem_flatMap.2 ⟨p,List.mem_of_mem_take hp,hb⟩
def d9E(er at_ n:Int)(u1 u2 u3 u4:Value):Obj:=.cells #[.int .i64 er,.int .i64 at_,.int .i64 n,u1,u2,u3,u4] 40 (0,0)
theorem KBk.box(h:KBk w B v0 v1 K r1 r2 r3 L m w1 K1 q1 q2 q3 Y1 Y2 Y3)(hQ:w.heap[Q]?=some o)(hL:Q ∉ L)(hB:Q ∉ bkB B r1 r2 r3):w1.heap[Q]?=some o :=
 (h.off.block Q (Array.getElem?_eq_some_iff.1 hQ).1 (fun e=>by
  rcases List.mem_append.1 e with e|e
  ·exact hL e
  ·exact hB e)).trans hQ
theorem KBk.down(k:Below w.heap.size w X)(h:KBk X B v0 v1 K r1 r2 r3 L m w1 K1 q1 q2 q3 Y1 Y2 Y3):KBk w B v0 v1 K r1 r2 r3 L m w1 K1 q1 q2 q3 Y1 Y2 Y3 :=
 ⟨h.bk,h.len,(Off.of_below k).trans h.off,fun b hb=>(h.kk b hb).imp id (Or.imp id fun e=>Nat.le_trans k.size e),fun b hb=>(h.rr b hb).imp id fun e=>Nat.le_trans k.size e⟩
def d9T(X:World)(B:Nat)(v0 v1:Value)(K:List Nat)(r1 r2 r3:Value)(L:List Nat)(m:Nat)(wr:World):Prop:=∃ K2 p1 p2 p3 Z1 Z2 Z3,KBk X B v0 v1 K r1 r2 r3 L m wr K2 p1 p2 p3 Z1 Z2 Z3
theorem d9T.ints(h:d9T w B v0 v1 K r1 r2 r3 L m w1)(hm:m<=1000000000)(ho:w.ownsRow 0 3 1 u n xs)(hn:n<=900000)(hl:∀ b,u.ownBlock=some b->b<w.heap.size/\b ∉ K/\b ∉ bkB B r1 r2 r3/\b ∉ L):
  Calls Tryz.prog 123 #[.pointer (some ⟨B,2,none⟩),u] w1 fun e w'=>e=.returned (.tuple #[])/\d9T w B v0 v1 K r1 r2 r3 (L++u.ownBlock.toList) (m+1) w':=by
 obtain⟨K1,q1,q2,q3,Y1,Y2,Y3,k⟩:=h;obtain⟨y1,y2,y3⟩:=k.len3 hm;refine (e4A k.bk y1 y2 y3 (k.own ho hl) hn (k.free hl)).mono ?_;rintro e w2 ⟨rfl,h2⟩;exact⟨rfl,k.step h2⟩
theorem d9T.a0e(h:d9T w B v0 v1 K r1 r2 r3 L m w1)(hm:m<=1000000000)(ho:w.ownsRow 0 60 2 u n xs)(hn:n<=900000)(hl:∀ b,u.ownBlock=some b->b<w.heap.size/\b ∉ K/\b ∉ bkB B r1 r2 r3/\b ∉ L):
  Calls Tryz.prog 121 #[.pointer (some ⟨B,2,none⟩),u] w1 fun e w'=>e=.returned (.tuple #[])/\d9T w B v0 v1 K r1 r2 r3 (L++u.ownBlock.toList) (m+1) w':=by
 obtain⟨K1,q1,q2,q3,Y1,Y2,Y3,k⟩:=h;obtain⟨y1,y2,y3⟩:=k.len3 hm;refine (e2e k.bk y1 y2 y3 (k.own ho hl) hn (k.free hl)).mono ?_;rintro e w2 ⟨rfl,h2⟩;exact⟨rfl,k.step h2⟩
theorem d9T.entries(h:d9T w B v0 v1 K r1 r2 r3 L m w1)(hm:m<=1000000000)(ho:w.ownsRow 0 58 6 u n xs)(hn:n<=900000)(hl:∀ b,u.ownBlock=some b->b<w.heap.size/\b ∉ K/\b ∉ bkB B r1 r2 r3/\b ∉ L):
  Calls Tryz.prog 122 #[.pointer (some ⟨B,2,none⟩),u] w1 fun e w'=>e=.returned (.tuple #[])/\d9T w B v0 v1 K r1 r2 r3 (L++u.ownBlock.toList) (m+1) w':=by
 obtain⟨K1,q1,q2,q3,Y1,Y2,Y3,k⟩:=h;obtain⟨y1,y2,y3⟩:=k.len3 hm;refine (d8E k.bk y1 y2 y3 (k.own ho hl) hn (k.free hl)).mono ?_;rintro e w2 ⟨rfl,h2⟩;exact⟨rfl,k.step h2⟩
theorem f8V(h:BK w B v0 v1 K r1 r2 r3 X1 X2 X3)(hm:X1.length+X2.length+X3.length+l.length+4<=1000000000)(hr:d9C w K (bkB B r1 r2 r3) u1 u2 u3 u4 l d g e)(hl:l.length<=1000)(hs:∀ p∈l,p.1.a0e.length<=900000)(hd:d.length<=900000)(hg:g.length<=900000)(he:e.length<=900000)(er at_ n:Int):
  Calls Tryz.prog 77 #[.pointer (some ⟨B,2,none⟩),a0s er at_ n u1 u2 u3 u4] w fun x w'=>x=.returned (.tuple #[])/\d9T w B v0 v1 K r1 r2 r3 (rlB u1 u2 u3 u4 l) (X1.length+X2.length+X3.length+l.length+4) w':=by
 have kW:Below w.heap.size w (w.alloc (d9E er at_ n u1 u2 u3 u4)):=(zr _ _).alloc (zq _) _;have hQ:=a0p w (d9E er at_ n u1 u2 u3 u4);obtain⟨a1,c1,rfl⟩:=c9y hr.en;obtain⟨a2,c2,rfl⟩:=c9y hr.da;obtain⟨a3,c3,rfl⟩:=c9y hr.gr;obtain⟨a4,c4,rfl⟩:=c9y hr.ed;have RW:=a0b (hr.later kW);have HS:=a0b (And.intro hs (And.intro hd (And.intro hg he)))
 have BX:Hid (∀ L',(∀ b∈L',b∈rlB (.slice a1 l.length c1) (.slice a2 d.length c2) (.slice a3 g.length c3) (.slice a4 e.length c4) l)->∀ m' W,d9T (w.alloc (d9E er at_ n (.slice a1 l.length c1) (.slice a2 d.length c2) (.slice a3 g.length c3) (.slice a4 e.length c4))) B v0 v1 K r1 r2 r3 L' m' W->W.cell? ⟨w.heap.size,3,none⟩=some (.slice a1 l.length c1)/\W.cell? ⟨w.heap.size,4,none⟩=some (.slice a2 d.length c2)/\W.cell? ⟨w.heap.size,5,none⟩=some (.slice a3 g.length c3)/\W.cell? ⟨w.heap.size,6,none⟩=some (.slice a4 e.length c4)):=fun L' hL m' W k=>by
  obtain⟨K1,q1,q2,q3,Y1,Y2,Y3,k⟩:=k;have hb:=k.box hQ (fun hx=>by have:=hr.lt _ (hL _ hx);omega) (fun hx=>by have:=h.lt _ hx;omega);exact⟨d0h hb 3 rfl,d0h hb 4 rfl,d0h hb 5 rfl,d0h hb 6 rfl⟩
 have G0:Hid (d9T (w.alloc (d9E er at_ n (.slice a1 l.length c1) (.slice a2 d.length c2) (.slice a3 g.length c3) (.slice a4 e.length c4))) B v0 v1 K r1 r2 r3 [] (X1.length+X2.length+X3.length) (w.alloc (d9E er at_ n (.slice a1 l.length c1) (.slice a2 d.length c2) (.slice a3 g.length c3) (.slice a4 e.length c4)))):=⟨_,_,_,_,_,_,_,KBk.refl (h.later kW)⟩;have DN:Hid (∀ L' m' W,d9T (w.alloc (d9E er at_ n (.slice a1 l.length c1) (.slice a2 d.length c2) (.slice a3 g.length c3) (.slice a4 e.length c4))) B v0 v1 K r1 r2 r3 L' m' W->d9T w B v0 v1 K r1 r2 r3 L' m' W):=fun L' m' W ⟨K1,q1,q2,q3,Y1,Y2,Y3,k⟩=>⟨K1,q1,q2,q3,Y1,Y2,Y3,k.down kW⟩
 clear kW hQ h hr hs hd hg he;simp only[a0s]
 go_enter Tryz.func77,Tryz.ntmps77
 go_upto_region 1 with fail
 change Code.wp _ _ _ _ (w.alloc (d9E er at_ n (.slice a1 l.length c1) (.slice a2 d.length c2) (.slice a3 g.length c3) (.slice a4 e.length c4)));generalize w.alloc (d9E er at_ n (.slice a1 l.length c1) (.slice a2 d.length c2) (.slice a3 g.length c3) (.slice a4 e.length c4))=X at RW BX G0 DN ⊢;generalize hM:X1.length+X2.length+X3.length=M at *
 have hL0:Hid (∀ k,∀ b∈spB (l.take k),b∈rlB (.slice a1 l.length c1) (.slice a2 d.length c2) (.slice a3 g.length c3) (.slice a4 e.length c4) l):=fun k b hb=>by
  simp only[rlB,List.mem_append];exact .inl (.inl (.inl (.inl (f3I hb))))
 go_wp2_with fail
 go_loopw [4] (fun v wr=>∃ k:Nat,k<=l.length/\v=.int .i64 k/\d9T X B v0 v1 K r1 r2 r3 (spB (l.take k)) (M+k) wr) (fun v _=>l.length-(intOf v).toNat)
 case atStart=>exact⟨0,Nat.zero_le _,rfl,by simpa[spB] using G0.out⟩
 case round =>
  obtain⟨k,hk,rfl,hkb⟩:=hrel;have HK:=a0b hkb;obtain⟨x3,_,_,_⟩:=BX.out _ (hL0.out k) _ _ hkb;clear hkb
  by_cases hlt:k<l.length
  ·have hlt':(k:Int)<(l.length:Int):=by omega
   have SP:=a0b (d9T.a0e HK.out (by omega) (RW.out.sp _ (zg hlt)) (HS.out.1 _ (zg hlt)) (RW.out.spf hlt))
   have EC:∃ g cap,(Value.slice a1 l.length c1)=.slice (some ⟨g,0,none⟩) l.length cap/\wr.cell? ⟨g,k*6+4,none⟩=some (l[k]).2:=by
    obtain⟨K1,q1,q2,q3,Y1,Y2,Y3,kk⟩:=HK.out
    exact e4k (kk.own RW.out.en fun b hb=>by
     obtain⟨y1,y2,y3,y4⟩:=RW.out.enf b hb
     exact⟨y1,y2,y3,fun hx=>y4 (f3I hx)⟩) (g1i hlt)
   obtain⟨g0,cap0,e0,y4⟩:=EC;simp only[Value.slice.injEq,true_and] at e0;obtain⟨rfl,rfl⟩:=e0
   go_wp2_with (first
    |(go_at_call 121;refine SP.out.mono ?_;rintro e w1 ⟨rfl,h1⟩;have H1:=a0b h1;clear h1))
   go_roundw
   case rel=>exact⟨k+1,by omega,by go_num,by rw[f8d hlt,<- Nat.add_assoc];exact H1.out⟩
   case measure=>simp[intOf];omega
  ·have hlt':¬ (k:Int)<(l.length:Int):=by omega
   have hkn:k=l.length:=by omega
   subst hkn;rw[List.take_length] at HK;have sub1:Hid (∀ b∈spB l++(Value.slice a1 l.length c1).ownBlock.toList,b∈rlB (.slice a1 l.length c1) (.slice a2 d.length c2) (.slice a3 g.length c3) (.slice a4 e.length c4) l):=fun b hb=>by unfold rlB;exact List.mem_append_left _ (List.mem_append_left _ (List.mem_append_left _ hb))
   have sub2:Hid (∀ b∈spB l++(Value.slice a1 l.length c1).ownBlock.toList++(Value.slice a2 d.length c2).ownBlock.toList,b∈rlB (.slice a1 l.length c1) (.slice a2 d.length c2) (.slice a3 g.length c3) (.slice a4 e.length c4) l):=fun b hb=>by unfold rlB;exact List.mem_append_left _ (List.mem_append_left _ hb)
   have sub3:Hid (∀ b∈spB l++(Value.slice a1 l.length c1).ownBlock.toList++(Value.slice a2 d.length c2).ownBlock.toList++(Value.slice a3 g.length c3).ownBlock.toList,b∈rlB (.slice a1 l.length c1) (.slice a2 d.length c2) (.slice a3 g.length c3) (.slice a4 e.length c4) l):=fun b hb=>by unfold rlB;exact List.mem_append_left _ hb
   have C1:=a0b (d9T.entries HK.out (by omega) RW.out.en (by omega) RW.out.enf)
   go_upto_region 6 with (first|(go_at_call 122;refine C1.out.mono ?_;rintro e1 w1 ⟨rfl,h1⟩;have H1:=a0b h1;clear h1))
   obtain⟨_,x4,_,_⟩:=BX.out _ sub1.out _ _ H1.out;have C2:=a0b (d9T.ints H1.out (by omega) RW.out.da HS.out.2.1 RW.out.daf);clear x3 C1
   go_upto_region 7 with (first|(go_at_call 123;refine C2.out.mono ?_;rintro e1 w2 ⟨rfl,h2⟩;have H2:=a0b h2;clear h2))
   obtain⟨_,_,x5,_⟩:=BX.out _ sub2.out _ _ H2.out;have C3:=a0b (d9T.ints H2.out (by omega) RW.out.gr HS.out.2.2.1 RW.out.grf);clear x4 C2
   go_upto_region 8 with (first|(go_at_call 123;refine C3.out.mono ?_;rintro e1 w3 ⟨rfl,h3⟩;have H3:=a0b h3;clear h3))
   obtain⟨_,_,_,x6⟩:=BX.out _ sub3.out _ _ H3.out;have C4:=a0b (d9T.ints H3.out (by omega) RW.out.ed HS.out.2.2.2 RW.out.edf);clear x5 C3
   go_wp2_with (first|(go_at_call 123;refine C4.out.mono ?_;rintro e1 w4 ⟨rfl,h4⟩;have H4:=a0b h4;clear h4))
   (try simp only[Exit.inBlock,Exit.then]);refine bodyPost_end (results_none rfl _ _ _) rfl ?_
   exact⟨rfl,by rw[hM];exact DN.out _ _ _ H4.out⟩
end
open Desk (Ent St Rep Inv)
inductive Tg
 |no|pr (i:Nat)|dc (i:Nat)|xs|ys|bk|kp
structure Dk where
 p:Nat
 d:Nat
 s:St
 r:Raw
 col:Nat->Option Col
 dd:Nat
 xs:List (Ent × Nat × Nat)
 F:List Nat
structure g3Y(w:World)(tg:Nat->Tg)(i:Nat)(k:Dk):Prop where
 bd:BD w k.p k.d k.s k.r k.col
 dd:DD w k.dd k.s k.xs k.F
 pp:tg k.p=.pr i
 pc:∀ b c,k.col b=some c->tg b=.pr i
 df:∀ b∈k.F,tg b=.dc i
 ds:∀ x∈k.xs,tg x.2.1=.dc i
structure f2L(w:World)(tg:Nat->Tg)(D:List Dk):Prop where
 at_:∀ (i:Nat) (k:Dk),D[i]?=some k->g3Y w tg i k
 env:Env w
 lt:∀ b,tg b≠.no->b<w.heap.size
 gl:∀ b,b<10->tg b=.no
variable {w w1 w2 w':World}{tg tg':Nat->Tg}{i:Nat}{k:Dk}{D:List Dk}{G:List Nat}
theorem Off.ten(h:Off G w w')(h10:10<=w.heap.size)(hG:∀ b∈G,10<=b):Below 10 w w':=⟨h.os,h.tape,h.output,h.size,fun b hb=>h.block b (by omega) fun hx=>by have:=hG b hx;omega⟩
theorem BD.off{d:Nat}{s:St}{r:Raw}(h:BD w p d s r col)(k:Off G w w')(hG:∀ b∈G,col b=none/\b≠p)(he:Env w'):BD w' p d s r col :=
 ⟨(k.block p (Array.getElem?_eq_some_iff.1 h.pc).1 fun hx=>(hG p hx).2 rfl).trans h.pc,h.pn,⟨h.ds.dk.off k fun x hx=>(hG x hx).1,h.ds.of,h.ds.wl,h.ds.hl,h.ds.inv⟩,he,h.gl⟩
theorem g3Y.off(h:g3Y w tg i k)(ko:Off G w w')(hG:∀ b∈G,tg b≠.pr i/\tg b≠.dc i)(he:Env w')(ht:∀ b,tg b≠.no->tg' b=tg b):g3Y w' tg' i k:=by
 have e:∀ {b t},tg b=t->t≠.no->tg' b=t:=fun h1 h2=>(ht _ (by rw[h1];exact h2)).trans h1
 refine⟨h.bd.off ko (fun b hb=>⟨?_,fun eb=>(hG b hb).1 (eb ▸ h.pp)⟩) he,h.dd.off ko (fun x hx hg=>(hG x hg).2 (h.df x hx)) (fun x hx hg=>(hG _ hg).2 (h.ds x hx)),e h.pp (by simp),fun b c hb=>e (h.pc b c hb) (by simp),fun b hb=>e (h.df b hb) (by simp),fun x hx=>e (h.ds x hx) (by simp)⟩
 cases hc:k.col b with
 |none=>rfl
 |some c=>exact ((hG b hb).1 (h.pc b c hc)).elim
theorem f2L.off(h:f2L w tg D)(ko:Off G w w')(hG:∀ b∈G,(∀ i,tg b≠.pr i/\tg b≠.dc i)/\10<=b)(ht:∀ b,tg b≠.no->tg' b=tg b)(hl:∀ b,tg' b≠.no->b<w'.heap.size)(hg:∀ b,b<10->tg' b=.no):f2L w' tg' D:=by
 have he:Env w':=h.env.ten (ko.ten h.env.size fun b hb=>(hG b hb).2);exact⟨fun i k hk=>(h.at_ i k hk).off ko (fun b hb=>(hG b hb).1 i) he ht,he,hl,hg⟩
theorem f2L.later(h:f2L w tg D)(k:Below w.heap.size w w'):f2L w' tg D :=
 h.off (G:=[]) (Off.of_below k) (by simp) (fun _ _=>rfl) (fun b hb=>zL (h.lt b hb) k.size) h.gl
theorem f2L.doc(h:f2L w tg D)(hi:D[i]?=some k){q:St × Rep}(P:b5M w k.p k.d k.col q v w1):DD w1 k.dd k.s k.xs k.F:=by
 obtain⟨r',col',bd,st,_⟩:=P;obtain⟨G,ko,hG⟩:=st.off;have K:=h.at_ i k hi
 have key:∀ b,tg b=.dc i->b ∉ G:=fun b hb hx=>by
  rcases hG b hx with ⟨c,hc,_⟩|⟨_,hc⟩
  ·have:=K.pc b c hc;rw[hb] at this;cases this
  ·have:=h.lt b (by rw[hb];simp);omega
 exact K.dd.off ko (fun x hx=>key x (K.df x hx)) (fun x hx=>key _ (K.ds x hx))
open Classical in
theorem f2L.both(h:f2L w tg D)(hi:D[i]?=some k){q:St × Rep}{e:Ending}(P:b5M w k.p k.d k.col q v w1)(Q:DDo w1 k.dd k.F k.xs q e w2):
  ∃ (k':Dk) (tg':Nat->Tg),f2L w2 tg' (D.set i k')/\k'.p=k.p/\k'.dd=k.dd/\k'.s=q.1/\(∀ b,tg b≠.no->tg' b=tg b)/\(∀ b,tg' b≠.no->tg b≠.no\/w.heap.size<=b)/\(∃ G,Off G w w2/\∀ b∈G,tg b=.pr i\/tg b=.dc i\/w.heap.size<=b)/\∃ (u1 u2 u3 u4:Value) (l:List (Ent × Value)),v=a0s q.2.err q.2.at_ q.2.n u1 u2 u3 u4/\l.map (·.1)=q.2.entries/\d9C w2 [] [] u1 u2 u3 u4 l q.2.days q.2.granted q.2.ended/\∀ b∈rlB u1 u2 u3 u4 l,tg' b=.no/\w.heap.size<=b:=by
 have hdoc:=h.doc hi P;obtain⟨r',col',bd,st,u1,u2,u3,u4,l,rfl,hl,e1,e2,e3,e4,e5,e6⟩:=P;obtain⟨v1,v2,v3,v4,xs',F',_,_,_,dd,hF,kd,hx⟩:=Q;have K:=h.at_ i k hi;have hil:i<D.length:=(List.getElem?_eq_some_iff.1 hi).1;obtain⟨G,ko,hG⟩:=st.off;have s1:=ko.size;have s2:=kd.size;have h10:=h.env.size
 -- what lies in the document's desk
 have hF2:∀ b∈F',tg b=.dc i\/w1.heap.size<=b:=fun b hb=>(hF b hb).imp (K.df b) id
 have hx2:∀ x∈xs',tg x.2.1=.dc i\/w1.heap.size<=x.2.1:=fun x hxx=>by
  rcases hx x hxx with ⟨y,hy,e⟩|e
  ·exact .inl (by rw[e];exact K.ds y hy)
  ·exact .inr e
 have hc2:∀ b c,col' b=some c->tg b=.pr i\/(w.heap.size<=b/\b<w1.heap.size):=fun b c hc=>by
  rcases st.new b c hc with e|e
  ·exact .inl (K.pc b c e)
  ·refine .inr ⟨e,?_⟩;rcases Nat.lt_or_ge b w1.heap.size with e' |e'
   ·exact e'
   ·rw[bd.ds.dk.none e'] at hc;cases hc
 let tn:Nat->Tg:=fun b=>if b<w.heap.size then tg b else if col' b≠none then .pr i else if b∈F'\/∃ x∈xs',x.2.1=b then .dc i else .no
 have tn0:∀ b,b<w.heap.size->tn b=tg b:=fun b hb=>if_pos hb
 have tn1:∀ b,tg b≠.no->tn b=tg b:=fun b hb=>tn0 b (h.lt b hb)
 have tnc:∀ b c,col' b=some c->tn b=.pr i:=fun b c hc=>by
  rcases hc2 b c hc with e|⟨e,_⟩
  ·rw[tn1 b (by rw[e];simp),e]
  ·show (if _ then _ else _)=_;rw[if_neg (by omega),if_pos (by rw[hc];simp)]
 have tnd:∀ b,(b∈F'\/∃ x∈xs',x.2.1=b)->tn b=.dc i:=fun b hb=>by
  have hb2:tg b=.dc i\/w1.heap.size<=b:=by
   rcases hb with hb|⟨x,hx,rfl⟩
   ·exact hF2 b hb
   ·exact hx2 x hx
  rcases hb2 with e|e
  ·rw[tn1 b (by rw[e];simp),e]
  ·show (if _ then _ else _)=_;rw[if_neg (by omega),if_neg (by simpa using bd.ds.dk.none e),if_pos hb]
 have tnr:∀ b,w.heap.size<=b->b<w1.heap.size->col' b=none->tn b=.no:=fun b h1 h2 h3=>by
  show (if _ then _ else _)=_;rw[if_neg (by omega),if_neg (by simpa using h3),if_neg ?_];rintro (hb|⟨x,hx,rfl⟩)
  ·rcases hF2 b hb with e|e
   ·have:=h.lt b (by rw[e];simp);omega
   ·omega
  ·rcases hx2 x hx with e|e
   ·have:=h.lt _ (by rw[e];simp);omega
   ·omega
 have hFb:∀ b∈k.F,tg b=.dc i:=K.df
 have hF10:∀ b∈k.F,10<=b:=fun b hb=>by
  rcases Nat.lt_or_ge b 10 with e|e
  ·have:=h.gl b e;rw[K.df b hb] at this;cases this
  ·exact e
 have G10:∀ b∈G,10<=b:=fun b hb=>by
  rcases hG b hb with ⟨c,hc,_⟩|⟨_,hc⟩
  ·rcases Nat.lt_or_ge b 10 with e|e
   ·rw[K.bd.gl b e] at hc;cases hc
   ·exact e
  ·omega
 have env2:Env w2:=bd.env.ten (kd.ten (by omega) hF10);have kW:Off (G++k.F) w w2:=(ko.mono fun x hx=>List.mem_append_left _ hx).trans' kd fun x hx=>.inl (List.mem_append_right _ hx)
 have GT:∀ b∈G++k.F,tg b=.pr i\/tg b=.dc i\/w.heap.size<=b:=fun b hb=>by
  rcases List.mem_append.1 hb with hb|hb
  ·rcases hG b hb with ⟨c,hc,_⟩|⟨_,hc⟩
   ·exact .inl (K.pc b c hc)
   ·exact .inr (.inr hc)
  ·exact .inr (.inl (K.df b hb))
 have bd2:BD w2 k.p k.d q.1 r' col':=bd.off kd (fun b hb=>by
  have ht:=K.df b hb;refine⟨?_,fun e=>by have:=K.pp;rw[<- e,ht] at this;cases this⟩
  cases hc:col' b with
  |none=>rfl
  |some c =>
   rcases hc2 b c hc with e|e
   ·rw[ht] at e;cases e
   ·have:=h.lt b (by rw[ht];simp);omega) env2
 -- the answer's rows
 have row:∀ {u:Value}{t z n:Nat}{xs:List Value},w1.ownsRow w.heap.size t z u n xs->(∀ b,u.ownBlock=some b->col' b=none)->w2.ownsRow 0 t z u n xs/\∀ b,u.ownBlock=some b->tn b=.no/\w.heap.size<=b:=fun ho hn=>by
  have lt:∀ b,_=some b->w.heap.size<=b/\b<w1.heap.size:=fun b hb=>ho.lt b hb
  refine⟨d7F (a1i ho kd fun b hb hx=>?_) (zN _),fun b hb=>⟨tnr b (lt b hb).1 (lt b hb).2 (hn b hb),(lt b hb).1⟩⟩;have:=h.lt b (by rw[K.df b hx];simp);have:=(lt b hb).1;omega
 have R1:=row e1.own e1.no;have RS:=fun p (hp:p∈l)=>row (e1.sp p hp).1.own (e1.sp p hp).1.no
 have R2:=row e2.own e2.no;have R3:=row e3.own e3.no;have R4:=row e4.own e4.no;refine⟨⟨k.p,k.d,q.1,r',col',k.dd,xs',F'⟩,tn,⟨fun j kj hj=>?_,env2,fun b hb=>?_,fun b hb=>?_⟩,rfl,rfl,rfl,tn1,fun b hb=>?_,⟨_,kW,GT⟩,u1,u2,u3,u4,l,rfl,hl,⟨R1.1,fun p hp=>(RS p hp).1,R2.1,R3.1,R4.1,e1.pw,fun b hb=>⟨fun e=>(e5 b e).2.1 hb,e6 b hb⟩,fun b hb=>(e5 b hb).2.2.1,fun _ _=>by simp⟩,fun b hb=>?_⟩
 ·rw[List.getElem?_set] at hj
  by_cases e:i=j
  ·subst e;rw[if_pos rfl,if_pos hil] at hj
   cases hj
   exact⟨bd2,dd,(tn1 _ (by rw[K.pp];simp)).trans K.pp,tnc,fun b hb=>tnd b (.inl hb),fun x hx=>tnd _ (.inr ⟨x,hx,rfl⟩)⟩
  ·rw[if_neg e] at hj;refine (h.at_ j kj hj).off kW (fun b hb=>?_) env2 tn1;rcases GT b hb with e1|e1|e1
   ·rw[e1];exact⟨fun e2=>e (by injection e2),by simp⟩
   ·rw[e1];exact⟨by simp,fun e2=>e (by injection e2)⟩
   ·have:tg b=.no:=by
     rcases Classical.em (tg b=.no) with e2|e2
     ·exact e2
     ·have:=h.lt b e2;omega
    rw[this];simp
 ·rcases Nat.lt_or_ge b w.heap.size with e|e
  ·omega
  ·have hb':(if b<w.heap.size then tg b else if col' b≠none then Tg.pr i else if b∈F'\/∃ x∈xs',x.2.1=b then Tg.dc i else Tg.no)≠.no:=hb;rw[if_neg (by omega)] at hb'
   by_cases hc:col' b≠none
   ·rcases Nat.lt_or_ge b w1.heap.size with e' |e'
    ·omega
    ·exact (hc (bd.ds.dk.none e')).elim
   ·rw[if_neg hc] at hb'
    by_cases hf:b∈F'\/∃ x∈xs',x.2.1=b
    ·rcases hf with hf|⟨x,hx,rfl⟩
     ·exact dd.lt b hf
     ·exact (dd.rd.sp x hx).2.2
    ·rw[if_neg hf] at hb';exact (hb' rfl).elim
 ·rw[tn0 b (by omega)];exact h.gl b hb
 ·rcases Nat.lt_or_ge b w.heap.size with e|e
  ·exact .inl (by rw[<- tn0 b e];exact hb)
  ·exact .inr e
 ·simp only[rlB,List.mem_append,Option.mem_toList] at hb;rcases hb with (((hb|hb)|hb)|hb)|hb
  ·obtain⟨p,hp,hpb⟩:=d8h hb;exact (RS p hp).2 b hpb
  ·exact R1.2 b hb
  ·exact R2.2 b hb
  ·exact R3.2 b hb
  ·exact R4.2 b hb
structure LX(w0 w:World)(B n:Nat)(tg:Nat->Tg)(D:List Dk)(K:List Nat)(v0 v1 r1 r2 r3:Value)(X1 X2 X3:List KL):Prop where
 ds:f2L w tg D
 bk:BK w B v0 v1 K r1 r2 r3 X1 X2 X3
 len:X1.length+X2.length+X3.length<=n
 xo:w.ownsRow 0 30 1 v0 D.length (D.map fun k=>Value.pointer (some ⟨k.p,0,none⟩))
 yo:w.ownsRow 0 102 1 v1 D.length (D.map fun k=>Value.pointer (some ⟨k.dd,0,none⟩))
 tb:∀ b∈bkB B r1 r2 r3,tg b=.bk
 tk:∀ b∈K,tg b=.kp
 tx:∀ b,v0.ownBlock=some b->tg b=.xs
 ty:∀ b,v1.ownBlock=some b->tg b=.ys
 d3:D.length<=3
 bl:Below w0.heap.size w0 w
 lo:∀ b,tg b≠.no->w0.heap.size<=b
 w10:10<=w0.heap.size
def LW(w0 w:World)(B n:Nat):Prop:=∃ tg D K v0 v1 r1 r2 r3 X1 X2 X3,LX w0 w B n tg D K v0 v1 r1 r2 r3 X1 X2 X3
section
variable {w0 w3 w4:World}{B n:Nat}{K:List Nat}{v0 v1 r1 r2 r3:Value}{X1 X2 X3:List KL}
theorem LX.later(h:LX w0 w B n tg D K v0 v1 r1 r2 r3 X1 X2 X3)(k:Below w.heap.size w w'):LX w0 w' B n tg D K v0 v1 r1 r2 r3 X1 X2 X3 :=
 ⟨h.ds.later k,h.bk.later k,h.len,a1g h.xo k,a1g h.yo k,h.tb,h.tk,h.tx,h.ty,h.d3,h.bl.trans (k.mono h.bl.size),h.lo,h.w10⟩
theorem LW.later(h:LW w0 w B n)(k:Below w.heap.size w w'):LW w0 w' B n:=by
 obtain⟨tg,D,K,v0,v1,r1,r2,r3,X1,X2,X3,h⟩:=h;exact⟨tg,D,K,v0,v1,r1,r2,r3,X1,X2,X3,h.later k⟩
theorem LW.more{m:Nat}(h:LW w0 w B n)(k:n<=m):LW w0 w B m:=by
 obtain⟨tg,D,K,v0,v1,r1,r2,r3,X1,X2,X3,h⟩:=h;exact⟨tg,D,K,v0,v1,r1,r2,r3,X1,X2,X3,⟨h.ds,h.bk,Nat.le_trans h.len k,h.xo,h.yo,h.tb,h.tk,h.tx,h.ty,h.d3,h.bl,h.lo,h.w10⟩⟩
theorem f3M{α β:Type}(f:α->β){l:List α}{i:Nat}{a b:α}(h:l[i]?=some a)(e:f b=f a):(l.set i b).map f=l.map f:=by
 rw[List.map_set,e];obtain⟨hi,rfl⟩:=List.getElem?_eq_some_iff.1 h;apply List.ext_getElem?;intro j;rw[List.getElem?_set]
 by_cases e1:i=j
 ·subst e1;simp[hi]
 ·rw[if_neg e1]
theorem Below.of_off{N:Nat}(h:Off G w w')(hN:N<=w.heap.size)(hG:∀ b∈G,N<=b):Below N w w':=⟨h.os,h.tape,h.output,h.size,fun b hb=>h.block b (by omega) fun hx=>by have:=hG b hx;omega⟩
theorem LX.both(h:LX w0 w B n tg D K v0 v1 r1 r2 r3 X1 X2 X3)(hi:D[i]?=some k){q:St × Rep}{e:Ending}(P:b5M w k.p k.d k.col q v w1)(Q:DDo w1 k.dd k.F k.xs q e w2):
  ∃ (k':Dk) (tg':Nat->Tg),LX w0 w2 B n tg' (D.set i k') K v0 v1 r1 r2 r3 X1 X2 X3/\∃ (u1 u2 u3 u4:Value) (l:List (Ent × Value)),v=a0s q.2.err q.2.at_ q.2.n u1 u2 u3 u4/\l.map (·.1)=q.2.entries/\d9C w2 K (bkB B r1 r2 r3) u1 u2 u3 u4 l q.2.days q.2.granted q.2.ended/\∀ b∈rlB u1 u2 u3 u4 l,tg' b=.no/\w0.heap.size<=b:=by
 obtain⟨k',tg',d',e1,e2,_,t1,t2,⟨G,ko,hG⟩,u1,u2,u3,u4,l,hv,hl,hr,hn⟩:=h.ds.both hi P Q
 have key:∀ {b t},tg b=t->t≠.no->(∀ i,t≠.pr i)->(∀ i,t≠.dc i)->b ∉ G/\tg' b=t:=fun {b t} h1 h2 h3 h4=>by
  refine⟨fun hx=>?_,(t1 b (by rw[h1];exact h2)).trans h1⟩;rcases hG b hx with e|e|e
  ·exact h3 _ (h1.symm.trans e)
  ·exact h4 _ (h1.symm.trans e)
  ·have:=h.ds.lt b (by rw[h1];exact h2);omega
 have kb:∀ b∈bkB B r1 r2 r3,b ∉ G/\tg' b=.bk:=fun b hb=>key (h.tb b hb) (by simp) (by simp) (by simp)
 have kk:∀ b∈K,b ∉ G/\tg' b=.kp:=fun b hb=>key (h.tk b hb) (by simp) (by simp) (by simp)
 have kx:∀ b,v0.ownBlock=some b->b ∉ G/\tg' b=.xs:=fun b hb=>key (h.tx b hb) (by simp) (by simp) (by simp)
 have ky:∀ b,v1.ownBlock=some b->b ∉ G/\tg' b=.ys:=fun b hb=>key (h.ty b hb) (by simp) (by simp) (by simp)
 have hb0:=h.bl.size
 have G0:∀ b∈G,w0.heap.size<=b:=fun b hb=>by
  rcases hG b hb with e|e|e
  ·exact h.lo b (by rw[e];simp)
  ·exact h.lo b (by rw[e];simp)
  ·omega
 refine⟨k',tg',⟨d',h.bk.off ko (fun b hb=>(kb b hb).1) (fun b hb=>(kk b hb).1),h.len,?_,?_,fun b hb=>(kb b hb).2,fun b hb=>(kk b hb).2,fun b hb=>(kx b hb).2,fun b hb=>(ky b hb).2,by simpa using h.d3,h.bl.trans (Below.of_off ko hb0 G0),fun b hb=>?_,h.w10⟩,u1,u2,u3,u4,l,hv,hl,?_,fun b hb=>⟨(hn b hb).1,by have:=(hn b hb).2;omega⟩⟩
 ·rw[List.length_set,f3M (fun k:Dk=>Value.pointer (some ⟨k.p,0,none⟩)) hi (by rw[e1])];exact a1i h.xo ko fun b hb=>(kx b hb).1
 ·rw[List.length_set,f3M (fun k:Dk=>Value.pointer (some ⟨k.dd,0,none⟩)) hi (by rw[e2])];exact a1i h.yo ko fun b hb=>(ky b hb).1
 ·rcases t2 b hb with e|e
  ·exact h.lo b e
  ·omega
 ·refine⟨hr.en,hr.sp,hr.da,hr.gr,hr.ed,hr.pw,hr.dg,hr.ge,fun b hb=>?_⟩
  have hb':b∈rlB u1 u2 u3 u4 l:=by
   simp only[rlB,List.mem_append,Option.mem_toList];rcases hb with hb|hb|hb|hb|⟨p,hp,hb⟩
   ·exact .inl (.inl (.inl (.inr hb)))
   ·exact .inl (.inl (.inr hb))
   ·exact .inl (.inr hb)
   ·exact .inr hb
   ·exact .inl (.inl (.inl (.inl (List.mem_flatMap.2 ⟨p,hp,by simpa using hb⟩))))
  have h0:=(hn b hb').1;refine⟨fun e=>?_,fun e=>?_⟩
  ·have:=(kk b e).2;rw[h0] at this;cases this
  ·have:=(kb b e).2;rw[h0] at this;cases this
open Classical in
theorem LX.kept(h:LX w0 w B n tg D K v0 v1 r1 r2 r3 X1 X2 X3){L:List Nat}{m:Nat}(hm:m<=n)(hL:∀ b∈L,tg b=.no/\w0.heap.size<=b)(k:d9T w B v0 v1 K r1 r2 r3 L m w4):LW w0 w4 B n:=by
 obtain⟨K',p1,p2,p3,Z1,Z2,Z3,kb⟩:=k
 let tn:Nat->Tg:=fun b=>if tg b≠.no then tg b else if b∈K' then .kp else if b∈bkB B p1 p2 p3 then .bk else .no
 have tn1:∀ b,tg b≠.no->tn b=tg b:=fun b hb=>if_pos hb
 have tnk:∀ b∈K',tn b=.kp:=fun b hb=>by
  by_cases e:tg b≠.no
  ·rw[tn1 b e];rcases kb.kk b hb with e1|e1|e1
   ·exact h.tk b e1
   ·exact (e (hL b e1).1).elim
   ·have:=h.ds.lt b e;omega
  ·show (if _ then _ else _)=_;rw[if_neg e,if_pos hb]
 have tnb:∀ b∈bkB B p1 p2 p3,tn b=.bk:=fun b hb=>by
  by_cases e:tg b≠.no
  ·rw[tn1 b e];rcases kb.rr b hb with e1|e1
   ·exact h.tb b e1
   ·have:=h.ds.lt b e;omega
  ·show (if _ then _ else _)=_;rw[if_neg e,if_neg ?_,if_pos hb];intro hk;have hb2:=hb;simp only[bkB,List.mem_cons,List.mem_append,Option.mem_toList] at hb2;have q:=kb.bk.br.kb b hk;rcases hb2 with rfl|e1|e1|e1
   ·exact kb.bk.bK hk
   ·exact q.2.1 e1
   ·exact q.2.2.1 e1
   ·exact q.2.2.2 e1
 have G0:∀ b∈L++bkB B r1 r2 r3,w0.heap.size<=b:=fun b hb=>by
  rcases List.mem_append.1 hb with hb|hb
  ·exact (hL b hb).2
  ·exact h.lo b (by rw[h.tb b hb];simp)
 have h10:=h.ds.env.size;have hb0:=h.bl.size
 have GT:∀ b∈L++bkB B r1 r2 r3,tg b=.no\/tg b=.bk:=fun b hb=>by
  rcases List.mem_append.1 hb with hb|hb
  ·exact .inl (hL b hb).1
  ·exact .inr (h.tb b hb)
 have G10:∀ b∈L++bkB B r1 r2 r3,10<=b:=fun b hb=>by
  have h1:=G0 b hb;have h2:=h.w10;omega
 have kx:∀ b,v0.ownBlock=some b->b ∉ L++bkB B r1 r2 r3:=fun b hb hx=>by
  have:=h.tx b hb;rcases GT b hx with e|e <;> rw[this] at e <;> cases e
 have ky:∀ b,v1.ownBlock=some b->b ∉ L++bkB B r1 r2 r3:=fun b hb hx=>by
  have:=h.ty b hb;rcases GT b hx with e|e <;> rw[this] at e <;> cases e
 have tno:∀ b,tn b≠.no->tg b≠.no\/b∈K'\/b∈bkB B p1 p2 p3:=fun b hb=>by
  have hb':(if tg b≠.no then tg b else if b∈K' then Tg.kp else if b∈bkB B p1 p2 p3 then Tg.bk else Tg.no)≠.no:=hb
  by_cases e:tg b≠.no
  ·exact .inl e
  ·rw[if_neg e] at hb'
   by_cases e1:b∈K'
   ·exact .inr (.inl e1)
   ·rw[if_neg e1] at hb'
    by_cases e2:b∈bkB B p1 p2 p3
    ·exact .inr (.inr e2)
    ·rw[if_neg e2] at hb';exact (hb' rfl).elim
 have lo':∀ b,tn b≠.no->w0.heap.size<=b:=fun b hb=>by
  rcases tno b hb with e|e|e
  ·exact h.lo b e
  ·rcases kb.kk b e with e|e|e
   ·exact h.lo b (by rw[h.tk b e];simp)
   ·exact (hL b e).2
   ·omega
  ·rcases kb.rr b e with e|e
   ·exact h.lo b (by rw[h.tb b e];simp)
   ·omega
 refine⟨tn,D,K',v0,v1,p1,p2,p3,Z1,Z2,Z3,⟨h.ds.off kb.off (fun b hb=>⟨fun i=>?_,G10 b hb⟩) tn1 (fun b hb=>?_) (fun b hb=>?_),kb.bk,by rw[kb.len];exact hm,a1i h.xo kb.off kx,a1i h.yo kb.off ky,tnb,tnk,fun b hb=>(tn1 b (by rw[h.tx b hb];simp)).trans (h.tx b hb),fun b hb=>(tn1 b (by rw[h.ty b hb];simp)).trans (h.ty b hb),h.d3,h.bl.trans (Below.of_off kb.off hb0 G0),lo',h.w10⟩⟩
 ·rcases GT b hb with e|e <;> rw[e] <;> simp
 ·rcases tno b hb with e|e|e
  ·exact zL (h.ds.lt b e) kb.off.size
  ·exact (kb.bk.br.kb b e).1
  ·exact kb.bk.lt b e
 ·rcases Classical.em (tn b=.no) with e|e
  ·exact e
  ·have h1:=lo' b e;have h2:=h.w10;omega
end
theorem f0o{ops:Array Oper}{rest:List Oper}{o:Oper}{a:Act}{Q:Exit->Act->World->Prop}(hgd:o.guard=none)(x y:Operand)(t:TypeId)(ho:o.op=.call { callee:=.builtin .append,args:=#[x,y],argTypes:=#[t,t] })
  {B e:Nat}{i:TypeInfo}{z:Value}(size bytes:Nat) (ht:Tryz.prog.underlying t=some (.slice e)) (hi:Tryz.prog.info? e=some i) (hz:i.zero=some z) (hsize:i.size=size) (hby:i.bytes=bytes) (hb72:bytes<=104) (hzs:z.cells.size=size) (hp0:0<size)
  {v:Value}{n:Nat}{xs:List Value}(hown:W.ownsRow B e size v n xs) {cs:Array Value}{ty:TypeId}{mk:Nat × Nat}(hcl:cs.toList.length=size) (hp1:∀ u∈cs.toList,u.oneCell'=true) (hs:a.eval x=v) (hx:a.eval y=.slice (some ⟨W.heap.size,0,none⟩) 1 1) (hl:n<=2000000) (hB:B<=W.heap.size)
  (h:∀ g cap w',w'.ownsRow B e size (.slice (some ⟨g,0,none⟩) (n+1) cap) (n+1) (xs++cs.toList)->Off v.ownBlock.toList W w'->(v.ownBlock=some g\/W.heap.size<=g)->wpList Tryz.prog ops Q rest (a.put o.dst (.slice (some ⟨g,0,none⟩) (n+1) cap)) w'):
  wpList Tryz.prog ops Q (o :: rest) a (W.alloc (.cells cs ty mk)):=by
 refine wpList_append_lies _ hgd x y t ho B e i z size bytes ht hi hz hsize hby hzs hp0 v n xs hs (hown.alloc _) ⟨W.heap.size,0,none⟩ 1 1 cs.toList hx (by omega) (World.news_of_block (cs:=cs) (a0p W _)) hp1 (by omega) (by unfold maxLen;omega) (Nat.le_trans (Nat.mul_le_mul (show n+1<=2000001 by omega) hb72) (by decide)) (by simp;omega) (W.heap.size+1) (by simp) ?_;intro g cap w' h1 h2 h3 _;exact h g cap w' h1 (((Off.refl _ W).alloc _).grown h2 (fun k hk=>.inl (by simp[hk]))) (h3.imp id (fun e=>by omega))
def zD:Obj:=.cells #[.slice none 0 0,.slice none 0 0,.int .i64 0,.int .i64 0] 105
theorem DD.zero(h:w.heap[Q]?=some zD):DD w Q st0 [] [Q]:=by
 have hl:=(Array.getElem?_eq_some_iff.1 h).1;have c:∀ (i:Nat) {v:Value},#[Value.slice none 0 0,.slice none 0 0,.int .i64 0,.int .i64 0][i]?=some v->w.cell? ⟨Q,i,none⟩=some v:=fun i _ hv=>d0h h i hv
 refine⟨⟨⟨_,c 0 rfl,World.ownsRow_nil _ _ _ _,fun k hk=>by cases hk⟩,⟨_,c 1 rfl,World.ownsRow_nil _ _ _ _,fun k hk=>by cases hk⟩,c 2 rfl,c 3 rfl,fun o=>by simp[World.frozen?,h,zD],by simp,by simp⟩,rfl,fun k hk=>by simp at hk;omega,by simp[st0],by simp[st0],by simp[st0]⟩
section
variable {w0 w w1 w2 w3 w5:World}{B n:Nat}{tg:Nat->Tg}{D:List Dk}{K:List Nat}{v0 v1 r1 r2 r3 v0' v1':Value}{X1 X2 X3:List KL}
theorem BK.set0(h:BK w B v0 v1 K r1 r2 r3 X1 X2 X3)(v:Value):BK (w.setCell ⟨B,0,none⟩ v) B v v1 K r1 r2 r3 X1 X2 X3:=by
 have kd:Off [B] w (w.setCell ⟨B,0,none⟩ v):=Off.set0 ..
 have ne:∀ {t:Nat}{r:Value}{n:Nat}{xs:List Value},w.ownsRow 0 t 5 r n xs->86≠t->∀ b,r.ownBlock=some b->b ∉ [B]:=fun ho ht b hb e=>by
  rw[List.mem_singleton.1 e] at hb;exact c8L ho h.hb ht hb
 exact⟨by rw[d1X h.hb];rfl,h.br.off kd (ne h.br.b1.own (by decide)) (ne h.br.b2.own (by decide)) (ne h.br.b3.own (by decide)) (fun b hb e=>h.bK (List.mem_singleton.1 e ▸ hb)),h.bK⟩
theorem BK.set1(h:BK w B v0 v1 K r1 r2 r3 X1 X2 X3)(v:Value):BK (w.setCell ⟨B,1,none⟩ v) B v0 v K r1 r2 r3 X1 X2 X3:=by
 have kd:Off [B] w (w.setCell ⟨B,1,none⟩ v):=Off.set0 ..
 have ne:∀ {t:Nat}{r:Value}{n:Nat}{xs:List Value},w.ownsRow 0 t 5 r n xs->86≠t->∀ b,r.ownBlock=some b->b ∉ [B]:=fun ho ht b hb e=>by
  rw[List.mem_singleton.1 e] at hb;exact c8L ho h.hb ht hb
 exact⟨by rw[d1X h.hb];rfl,h.br.off kd (ne h.br.b1.own (by decide)) (ne h.br.b2.own (by decide)) (ne h.br.b3.own (by decide)) (fun b hb e=>h.bK (List.mem_singleton.1 e ▸ hb)),h.bK⟩
theorem LX.xB(h:LX w0 w B n tg D K v0 v1 r1 r2 r3 X1 X2 X3):∀ b,v0.ownBlock=some b->b ∉ bkB B r1 r2 r3/\b ∉ K/\v1.ownBlock≠some b/\b≠B:=fun b hb=>by
 have ht:=h.tx b hb;refine⟨fun e=>?_,fun e=>?_,fun e=>?_,fun e=>?_⟩
 ·have:=h.tb b e;rw[ht] at this;cases this
 ·have:=h.tk b e;rw[ht] at this;cases this
 ·have:=h.ty b e;rw[ht] at this;cases this
 ·have:=h.tb b (by rw[e];simp[bkB]);rw[ht] at this;cases this
theorem LX.yB(h:LX w0 w B n tg D K v0 v1 r1 r2 r3 X1 X2 X3):∀ b,v1.ownBlock=some b->b ∉ bkB B r1 r2 r3/\b ∉ K/\v0.ownBlock≠some b/\b≠B:=fun b hb=>by
 have ht:=h.ty b hb;refine⟨fun e=>?_,fun e=>?_,fun e=>?_,fun e=>?_⟩
 ·have:=h.tb b e;rw[ht] at this;cases this
 ·have:=h.tk b e;rw[ht] at this;cases this
 ·have:=h.tx b e;rw[ht] at this;cases this
 ·have:=h.tb b (by rw[e];simp[bkB]);rw[ht] at this;cases this
theorem LX.bt(h:LX w0 w B n tg D K v0 v1 r1 r2 r3 X1 X2 X3):tg B=.bk/\B<w.heap.size:=⟨h.tb B (by simp[bkB]),h.bk.lt B (by simp[bkB])⟩
open Classical in
theorem LX.begin(h:LX w0 w B n tg D K v0 v1 r1 r2 r3 X1 X2 X3)(hD:D.length<3){d:Nat}(bd:BD w1 p d st0 c2z col)(k1:Below w.heap.size w w1)(hc:∀ b,b<w.heap.size->col b=none)(hp:w.heap.size<=p)
  (k2:Off v0.ownBlock.toList w1 w2) (o2:w2.ownsRow 0 30 1 v0' (D.length+1) ((D.map fun k=>Value.pointer (some ⟨k.p,0,none⟩))++[.pointer (some ⟨p,0,none⟩)])) (a2:∀ b,v0'.ownBlock=some b->v0.ownBlock=some b\/w1.heap.size<=b)
  (e3:w3=w2.setCell ⟨B,0,none⟩ v0') (k5:Off v1.ownBlock.toList (w3.alloc zD) w5) (o5:w5.ownsRow 0 102 1 v1' (D.length+1) ((D.map fun k=>Value.pointer (some ⟨k.dd,0,none⟩))++[.pointer (some ⟨w3.heap.size,0,none⟩)])) (a5:∀ b,v1'.ownBlock=some b->v1.ownBlock=some b\/(w3.alloc zD).heap.size<=b):
  LW w0 (w5.setCell ⟨B,1,none⟩ v1') B n:=by
 obtain⟨tB,lB⟩:=h.bt;have s1:=k1.size;have s2:=k2.size;have ks3:Off [B] w2 w3:=by rw[e3];exact Off.set0 ..
 have s3:w3.heap.size=w2.heap.size:=by rw[e3];simp[World.setCell]
 have k4:Below w3.heap.size w3 (w3.alloc zD):=(zr _ _).alloc (zq _) _;have s4:(w3.alloc zD).heap.size=w3.heap.size+1:=by simp
 have s5:=k5.size;have ks6:Off [B] w5 (w5.setCell ⟨B,1,none⟩ v1'):=Off.set0 ..;have s6:=ks6.size;have xlt:∀ b,v0.ownBlock=some b->b<w.heap.size:=fun b hb=>h.ds.lt b (by rw[h.tx b hb];simp)
 have ylt:∀ b,v1.ownBlock=some b->b<w.heap.size:=fun b hb=>h.ds.lt b (by rw[h.ty b hb];simp)
 have plt:p<w1.heap.size:=(Array.getElem?_eq_some_iff.1 bd.pc).1
 have clt:∀ b c,col b=some c->w.heap.size<=b/\b<w1.heap.size:=fun b c hb=>by
  refine⟨?_,?_⟩
  ·rcases Nat.lt_or_ge b w.heap.size with e|e
   ·rw[hc b e] at hb;cases hb
   ·exact e
  ·rcases Nat.lt_or_ge b w1.heap.size with e|e
   ·exact e
   ·rw[bd.ds.dk.none e] at hb;cases hb
 have x'lt:∀ b,v0'.ownBlock=some b->b<w2.heap.size:=fun b hb=>c7O o2 hb
 have y'lt:∀ b,v1'.ownBlock=some b->b<w5.heap.size:=fun b hb=>c7O o5 hb
 -- all that changes
 have kA:Off (B :: (v0.ownBlock.toList++v1.ownBlock.toList)) w1 (w5.setCell ⟨B,1,none⟩ v1'):=by
  refine ((((k2.mono fun x hx=>?_).trans (ks3.mono fun x hx=>?_)).trans (Off.of_below k4)).trans (k5.mono fun x hx=>?_)).trans (ks6.mono fun x hx=>?_)
  ·exact List.mem_cons_of_mem _ (List.mem_append_left _ hx)
  ·rw[List.mem_singleton.1 hx];exact List.mem_cons_self ..
  ·exact List.mem_cons_of_mem _ (List.mem_append_right _ hx)
  ·rw[List.mem_singleton.1 hx];exact List.mem_cons_self ..
 have kW:=(Off.of_below (F:=B :: (v0.ownBlock.toList++v1.ownBlock.toList)) k1).trans kA
 have GT:∀ b∈B :: (v0.ownBlock.toList++v1.ownBlock.toList),(tg b=.bk\/tg b=.xs\/tg b=.ys)/\b<w.heap.size:=fun b hb=>by
  simp only[List.mem_cons,List.mem_append,Option.mem_toList] at hb;rcases hb with rfl|hb|hb
  ·exact⟨.inl tB,lB⟩
  ·exact⟨.inr (.inl (h.tx b hb)),xlt b hb⟩
  ·exact⟨.inr (.inr (h.ty b hb)),ylt b hb⟩
 have GN:∀ b∈B :: (v0.ownBlock.toList++v1.ownBlock.toList),tg b≠.no:=fun b hb=>by
  rcases (GT b hb).1 with e|e|e <;> rw[e] <;> simp
 have G10:∀ b∈B :: (v0.ownBlock.toList++v1.ownBlock.toList),10<=b:=fun b hb=>by
  rcases Nat.lt_or_ge b 10 with e|e
  ·exact (GN b hb (h.ds.gl b e)).elim
  ·exact e
 let tn:Nat->Tg:=fun b=>if tg b≠.no then tg b else if b=w3.heap.size then .dc D.length else if v0'.ownBlock=some b then .xs else if v1'.ownBlock=some b then .ys else if col b≠none\/b=p then .pr D.length else .no
 have tn1:∀ b,tg b≠.no->tn b=tg b:=fun b hb=>if_pos hb
 have tn0:∀ b,w.heap.size<=b->¬ tg b≠.no:=fun b hb e=>by have:=h.ds.lt b e;omega
 have tnd:tn w3.heap.size=.dc D.length:=by
  show (if _ then _ else _)=_;rw[if_neg (tn0 _ (by omega)),if_pos rfl]
 have tnx:∀ b,v0'.ownBlock=some b->tn b=.xs:=fun b hb=>by
  rcases a2 b hb with e|e
  ·rw[tn1 b (by rw[h.tx b e];simp),h.tx b e]
  ·show (if _ then _ else _)=_;rw[if_neg (tn0 _ (by omega)),if_neg (by have:=x'lt b hb;omega),if_pos hb]
 have tny:∀ b,v1'.ownBlock=some b->tn b=.ys:=fun b hb=>by
  rcases a5 b hb with e|e
  ·rw[tn1 b (by rw[h.ty b e];simp),h.ty b e]
  ·show (if _ then _ else _)=_;rw[if_neg (tn0 _ (by omega)),if_neg (by omega),if_neg (fun hx=>by have:=x'lt b hx;omega),if_pos hb]
 have tnp:∀ b,w.heap.size<=b->b<w1.heap.size->(col b≠none\/b=p)->tn b=.pr D.length:=fun b h1 h2 hb=>by
  show (if _ then _ else _)=_;rw[if_neg (tn0 _ h1),if_neg (by omega),if_neg (fun hx=>?_),if_neg (fun hx=>?_),if_pos hb]
  ·rcases a5 b hx with e|e
   ·have:=ylt b e;omega
   ·omega
  ·rcases a2 b hx with e|e
   ·have:=xlt b e;omega
   ·omega
 have tno:∀ b,tn b≠.no->(tg b≠.no\/w.heap.size<=b)/\b<(w5.setCell ⟨B,1,none⟩ v1').heap.size:=fun b hb=>by
  have hb':(if tg b≠.no then tg b else if b=w3.heap.size then Tg.dc D.length else if v0'.ownBlock=some b then Tg.xs else if v1'.ownBlock=some b then Tg.ys else if col b≠none\/b=p then Tg.pr D.length else Tg.no)≠.no:=hb
  by_cases e:tg b≠.no
  ·exact⟨.inl e,by have:=h.ds.lt b e;omega⟩
  rw[if_neg e] at hb'
  by_cases e1:b=w3.heap.size
  ·exact⟨.inr (by omega),by omega⟩
  rw[if_neg e1] at hb'
  by_cases e2:v0'.ownBlock=some b
  ·refine⟨?_,by have:=x'lt b e2;omega⟩;rcases a2 b e2 with q|q
   ·exact .inl (by rw[h.tx b q];simp)
   ·exact .inr (by omega)
  rw[if_neg e2] at hb'
  by_cases e3:v1'.ownBlock=some b
  ·refine⟨?_,by have:=y'lt b e3;omega⟩;rcases a5 b e3 with q|q
   ·exact .inl (by rw[h.ty b q];simp)
   ·exact .inr (by omega)
  rw[if_neg e3] at hb'
  by_cases e4:col b≠none\/b=p
  ·rcases e4 with q|q
   ·cases hcb:col b with
    |none=>exact (q hcb).elim
    |some c=>exact⟨.inr (clt b c hcb).1,by have:=(clt b c hcb).2;omega⟩
   ·exact⟨.inr (by omega),by omega⟩
  ·rw[if_neg e4] at hb';exact (hb' rfl).elim
 have hb0:=h.bl.size
 have lo':∀ b,tn b≠.no->w0.heap.size<=b:=fun b hb=>by
  rcases (tno b hb).1 with e|e
  ·exact h.lo b e
  ·omega
 have gl':∀ b,b<10->tn b=.no:=fun b hb=>by
  rcases Classical.em (tn b=.no) with e|e
  ·exact e
  ·have h1:=lo' b e;have h2:=h.w10;omega
 have ds':f2L (w5.setCell ⟨B,1,none⟩ v1') tn D:=h.ds.off kW (fun b hb=>⟨fun i=>by rcases (GT b hb).1 with e|e|e <;> rw[e] <;> simp,G10 b hb⟩) tn1 (fun b hb=>(tno b hb).2) gl';have bd':BD (w5.setCell ⟨B,1,none⟩ v1') p d st0 c2z col:=bd.off kA (fun b hb=>⟨hc b (GT b hb).2,by have:=(GT b hb).2;omega⟩) ds'.env;have hQ5:w5.heap[w3.heap.size]?=some zD:=(k5.block _ (by omega) (fun e=>by have:=ylt _ (Option.mem_toList.1 e);omega)).trans (a0p w3 _);have hQ:(w5.setCell ⟨B,1,none⟩ v1').heap[w3.heap.size]?=some zD:=(ks6.block _ (by omega) (fun e=>by have:=List.mem_singleton.1 e;omega)).trans hQ5;have b2:BK w2 B v0 v1 K r1 r2 r3 X1 X2 X3:=(h.bk.later k1).off k2 (fun b hb e=>(h.xB b (Option.mem_toList.1 e)).1 hb) (fun b hb e=>(h.xB b (Option.mem_toList.1 e)).2.1 hb);have b3:BK w3 B v0' v1 K r1 r2 r3 X1 X2 X3:=by rw[e3];exact b2.set0 v0'
 have b5:BK w5 B v0' v1 K r1 r2 r3 X1 X2 X3:=(b3.later k4).off k5 (fun b hb e=>(h.yB b (Option.mem_toList.1 e)).1 hb) (fun b hb e=>(h.yB b (Option.mem_toList.1 e)).2.1 hb)
 have nx:∀ b,v0'.ownBlock=some b->b≠B/\v1.ownBlock≠some b:=fun b hb=>by
  rcases a2 b hb with e|e
  ·exact⟨(h.xB b e).2.2.2,(h.xB b e).2.2.1⟩
  ·exact⟨by omega,fun e1=>by have:=ylt b e1;omega⟩
 have ny:∀ b,v1'.ownBlock=some b->b≠B:=fun b hb=>by
  rcases a5 b hb with e|e
  ·exact (h.yB b e).2.2.2
  ·omega
 have xo':(w5.setCell ⟨B,1,none⟩ v1').ownsRow 0 30 1 v0' (D.length+1) ((D.map fun k=>Value.pointer (some ⟨k.p,0,none⟩))++[.pointer (some ⟨p,0,none⟩)]) :=
  a1i (a1i (a1g (a1i o2 ks3 fun b hb e=>(nx b hb).1 (List.mem_singleton.1 e)) k4) k5 fun b hb e=>(nx b hb).2 (Option.mem_toList.1 e)) ks6 fun b hb e=>(nx b hb).1 (List.mem_singleton.1 e)
 have yo':(w5.setCell ⟨B,1,none⟩ v1').ownsRow 0 102 1 v1' (D.length+1) ((D.map fun k=>Value.pointer (some ⟨k.dd,0,none⟩))++[.pointer (some ⟨w3.heap.size,0,none⟩)]) :=
  a1i o5 ks6 fun b hb e=>ny b hb (List.mem_singleton.1 e)
 refine⟨tn,D++[⟨p,d,st0,c2z,col,w3.heap.size,[],[w3.heap.size]⟩],K,v0',v1',r1,r2,r3,X1,X2,X3,⟨⟨fun i k hk=>?_,ds'.env,ds'.lt,ds'.gl⟩,b5.set1 v1',h.len,by simpa using xo',by simpa using yo',fun b hb=>(tn1 b (by rw[h.tb b hb];simp)).trans (h.tb b hb),fun b hb=>(tn1 b (by rw[h.tk b hb];simp)).trans (h.tk b hb),tnx,tny,by simp;omega,h.bl.trans (Below.of_off kW hb0 fun b hb=>h.lo b (GN b hb)),lo',h.w10⟩⟩;rcases Nat.lt_or_ge i D.length with e|e
 ·rw[List.getElem?_append_left e] at hk;exact ds'.at_ i k hk
 ·rw[List.getElem?_append_right e] at hk
  have hi:i-D.length=0:=by
   rcases Nat.eq_zero_or_pos (i-D.length) with q|q
   ·exact q
   ·rw[List.getElem?_eq_none (by simp;omega)] at hk;cases hk
  rw[hi] at hk;have:i=D.length:=by omega
  subst this;simp only[List.getElem?_cons_zero,Option.some.injEq] at hk;subst hk;exact⟨bd',DD.zero hQ,tnp p hp plt (.inr rfl),fun b c hb=>tnp b (clt b c hb).1 (clt b c hb).2 (.inl (fun e=>by rw[show col b=some c from hb] at e;cases e)),fun b hb=>by rw[List.mem_singleton.1 hb];exact tnd,fun x hx=>by cases hx⟩
theorem g3p:(Tryz.prog.info? 30).map (fun i=>(i.zero,i.size,i.bytes))=some (some (.pointer none),1,8):=by kernel_rfl
theorem g3n:(Tryz.prog.info? 102).map (fun i=>(i.zero,i.size,i.bytes))=some (some (.pointer none),1,8):=by kernel_rfl
theorem e0X(h:LW w0 w B n):Calls Tryz.prog 40 #[.pointer (some ⟨B,0,none⟩)] w fun e w'=>e=.returned (.bool true)/\LW w0 w' B n:=by
 obtain⟨i0,hi0,hz0,hz1,hz2⟩:=info_parts g3p;obtain⟨j0,hj0,jz0,jz1,jz2⟩:=info_parts g3n;obtain⟨tg,D,K,v0,v1,r1,r2,r3,X1,X2,X3,hx⟩:=h;have NE:=a0b (f2r w hx.ds.env);obtain⟨a0,c0,rfl⟩:=c9y hx.xo;obtain⟨a1,c1,rfl⟩:=c9y hx.yo;have HX:=a0b hx;clear hx
 go_enter Tryz.func40,Tryz.ntmps40
 go_upto_region 4 with (first|(go_at_call 44;refine NE.out.mono ?_;rintro e w1 ⟨p,d,col,rfl,bd,k1,hc,hp⟩;have H1:=a0b (And.intro bd (And.intro k1 (And.intro hc hp)));clear bd k1 hc hp))
 obtain⟨x0,x1,_,_,_,fz⟩:=(HX.out.bk.later H1.out.2.1).cells
 by_cases hD:D.length<3
 ·have hD':(D.length:Int)<3:=by omega
  have XO:=a0b (a1g HX.out.xo H1.out.2.1);have f0:=fz 0;have hBx:Hid (B ∉ (Value.slice a0 D.length c0).ownBlock.toList):=fun e=>(HX.out.xB B (Option.mem_toList.1 e)).2.2.2 rfl
  have hBy:Hid (B ∉ (Value.slice a1 D.length c1).ownBlock.toList):=fun e=>(HX.out.yB B (Option.mem_toList.1 e)).2.2.2 rfl
  have LB:Hid (B<w1.heap.size):=World.block_lt_of_cell? _ _ x0
  go_upto_region 6 with (first|(at_builtin;go_loud (refine f0o rfl _ _ 78 rfl 1 8 Tryz.underlying78 hi0 hz0 hz1 hz2 (by decide) rfl (by decide) XO.out (cs:=#[.pointer (some ⟨p,0,none⟩)]) rfl (by simp[Value.oneCell']) rfl rfl (by omega) (zN _) ?_);intro g2 c2 w2 o2 k2 a2;have y0:=k2.cell hBx.out x0;have z0:=(k2.frozen hBx.out LB.out).trans f0;have y1:=k2.cell hBx.out x1;have z1:=(k2.frozen (o:=1) hBx.out LB.out).trans (fz 1)))
  have K2:=a0b (And.intro k2 (And.intro o2 a2))
  have q1:(w2.setCell ⟨B,0,none⟩ (.slice (some ⟨g2,0,none⟩) (D.length+1) c2)).cell? ⟨B,1,none⟩=some (.slice a1 D.length c1):=by
   rw[World.cell?_setCell_other _ _ _ _ (by simp)];exact y1
  have z3:(w2.setCell ⟨B,0,none⟩ (.slice (some ⟨g2,0,none⟩) (D.length+1) c2)).frozen? ⟨B,1,none⟩=false:=by
   rw[World.frozen?_setCell];exact z1
  clear k2 o2 a2 x0 x1 y0 y1 z0 z1 f0;have hw3:Hid (∃ w3,w3=w2.setCell ⟨B,0,none⟩ (.slice (some ⟨g2,0,none⟩) (D.length+1) c2)):=⟨_,rfl⟩
  have YO:Hid (((w2.setCell ⟨B,0,none⟩ (.slice (some ⟨g2,0,none⟩) (D.length+1) c2)).alloc zD).ownsRow 0 102 1 (.slice a1 D.length c1) D.length (D.map fun k=>Value.pointer (some ⟨k.dd,0,none⟩))) :=
   (a1i (a1i (a1g HX.out.yo H1.out.2.1) K2.out.1 fun b hb e=>(HX.out.yB b hb).2.2.1 (Option.mem_toList.1 e)) (Off.set0 B w2 0 _) fun b hb e=>(HX.out.yB b hb).2.2.2 (List.mem_singleton.1 e)).alloc _
  have FIN:Hid (∀ v1' w5,Off (Value.slice a1 D.length c1).ownBlock.toList ((w2.setCell ⟨B,0,none⟩ (.slice (some ⟨g2,0,none⟩) (D.length+1) c2)).alloc zD) w5->w5.ownsRow 0 102 1 v1' (D.length+1) ((D.map fun k=>Value.pointer (some ⟨k.dd,0,none⟩))++[.pointer (some ⟨(w2.setCell ⟨B,0,none⟩ (.slice (some ⟨g2,0,none⟩) (D.length+1) c2)).heap.size,0,none⟩)])->(∀ b,v1'.ownBlock=some b->(Value.slice a1 D.length c1).ownBlock=some b\/((w2.setCell ⟨B,0,none⟩ (.slice (some ⟨g2,0,none⟩) (D.length+1) c2)).alloc zD).heap.size<=b)->LW w0 (w5.setCell ⟨B,1,none⟩ v1') B n):=fun v1' w5 k5 o5 a5 =>
   HX.out.begin hD H1.out.1 H1.out.2.1 H1.out.2.2.1 H1.out.2.2.2 K2.out.1 K2.out.2.1 (fun b hb=>by simp[Value.ownBlock] at hb;subst hb;exact K2.out.2.2) rfl k5 o5 a5
  clear hw3;have q1A:((w2.setCell ⟨B,0,none⟩ (.slice (some ⟨g2,0,none⟩) (D.length+1) c2)).alloc zD).cell? ⟨B,1,none⟩=some (.slice a1 D.length c1):=a0a ((zr _ _).alloc (zq _) _) q1
  have z3A:((w2.setCell ⟨B,0,none⟩ (.slice (some ⟨g2,0,none⟩) (D.length+1) c2)).alloc zD).frozen? ⟨B,1,none⟩=false:=by
   have e:=((zr (w2.setCell ⟨B,0,none⟩ (.slice (some ⟨g2,0,none⟩) (D.length+1) c2)).heap.size _).alloc (zq _) zD).block B (World.block_lt_of_cell? _ _ q1);simp only[World.frozen?,e] at z3 ⊢;exact z3
  generalize w2.setCell ⟨B,0,none⟩ (.slice (some ⟨g2,0,none⟩) (D.length+1) c2)=w3 at *;clear K2 XO H1 NE LB hBx fz;have hBA:Hid (B<(w3.alloc zD).heap.size):=World.block_lt_of_cell? _ _ q1A
  go_upto_region 7 with (first|(at_builtin;go_loud (refine f0o (W:=w3.alloc zD) rfl _ _ 79 rfl 1 8 Tryz.underlying79 hj0 jz0 jz1 jz2 (by decide) rfl (by decide) YO.out (cs:=#[.pointer (some ⟨w3.heap.size,0,none⟩)]) rfl (by simp[Value.oneCell']) rfl (by simp[Act.eval]) (by omega) (zN _) ?_);intro g5 c5 w5 o5 k5 a5;have y1:=k5.cell hBy.out q1A;have z1:=(k5.frozen hBy.out hBA.out).trans z3A))
  have HF:=a0b (FIN.out _ _ k5 o5 (fun b hb=>by simp[Value.ownBlock] at hb;subst hb;exact a5));clear k5 o5 a5 y1 z1 FIN YO
  go_wp2_with fail
  go_ret;exact⟨rfl,HF.out⟩
 ·have hD':¬ (D.length:Int)<3:=by omega
  go_wp2_with fail
  go_ret;exact⟨rfl,_,_,_,_,_,_,_,_,_,_,_,HX.out.later H1.out.2.1⟩
end
variable {w w1 w2:World}{B:Nat}{v0 v1 r1 r2 r3:Value}{K:List Nat}{X1 X2 X3:List KL}
theorem g4m{X:List KL}{k:Nat}(hk:k<X.length)(o:Nat)(ho:o<5):(X.flatMap klV)[k*5+o]?=(klV X[k])[o]?:=by
 induction X generalizing k with
 |nil=>simp at hk
 |cons a r ih =>
  cases k with
  |zero=>rw[List.flatMap_cons,Nat.zero_mul,Nat.zero_add,List.getElem?_append_left (by simpa[klV] using ho)];rfl
  |succ k =>
   have:=ih (k:=k) (by simpa using hk);rw[List.flatMap_cons,List.getElem?_append_right (by simp[klV];omega)];simp only[klV,List.length_cons,List.length_nil,List.getElem_cons_succ] at this ⊢;rw[<- this]
   congr 1
   omega
theorem e7E.look{t:TypeId}{r:Value}{X:List KL}(h:e7E P t K w r X){k:Nat}(hk:k<X.length):∃ (g cap:Nat)(a1 a2 a3 a4:Option Addr)(j c1 c2 c3 c4:Nat)(m:Int),r=.slice (some ⟨g,0,none⟩) X.length cap/\w.cell? ⟨g,k*5,none⟩=some (.slice a1 j c1)/\w.cell? ⟨g,k*5+1,none⟩=some (.slice a2 (j+1) c2)/\w.cell? ⟨g,k*5+2,none⟩=some (.slice a3 (j+2) c3)/\w.cell? ⟨g,k*5+3,none⟩=some (.slice a4 (j+3) c4)/\w.cell? ⟨g,k*5+4,none⟩=some (.int .i64 m) /\
  j<=900000/\Fu (P m) w (.slice a1 j c1) j/\Fu (P m) w (.slice a2 (j+1) c2) (j+1)/\Fu (P m) w (.slice a3 (j+2) c3) (j+2)/\Fu (P m) w (.slice a4 (j+3) c4) (j+3):=by
 obtain⟨j,hj,f1,f2,f3,f4⟩:=h.four _ (zg hk);obtain⟨a1,c1,e1⟩:=f1.form;obtain⟨a2,c2,e2⟩:=f2.form;obtain⟨a3,c3,e3⟩:=f3.form;obtain⟨a4,c4,e4⟩:=f4.form
 have c:∀ o v,o<5->(klV X[k])[o]?=some v->∃ g cap,r=.slice (some ⟨g,0,none⟩) X.length cap/\w.cell? ⟨g,k*5+o,none⟩=some v:=fun o v ho hv=>by
  have hc:=(g4m hk o ho).trans hv;rcases h.own.2 with ⟨rfl,hn⟩|⟨g,cap,cur,rfl,_,hh,_⟩
  ·omega
  ·exact⟨g,cap,rfl,(f6U g (k*5+o)) ▸ h.own.cells (g:=g) rfl _ v hc⟩
 obtain⟨g,cap,rfl,y0⟩:=c 0 _ (by decide) rfl
 have c':∀ o v,o<5->(klV X[k])[o]?=some v->w.cell? ⟨g,k*5+o,none⟩=some v:=fun o v ho hv=>by
  obtain⟨g',cap',e,y⟩:=c o v ho hv;simp only[Value.slice.injEq,Option.some.injEq,Addr.mk.injEq,and_true,true_and] at e;obtain⟨rfl,rfl⟩:=e;exact y
 have y1:=c' 1 _ (by decide) rfl;have y2:=c' 2 _ (by decide) rfl;have y3:=c' 3 _ (by decide) rfl;have y4:=c' 4 _ (by decide) rfl;rw[Nat.add_zero] at y0;rw[e1] at y0 f1;rw[e2] at y1 f2;rw[e3] at y2 f3;rw[e4] at y3 f4;exact⟨g,cap,a1,a2,a3,a4,j,c1,c2,c3,c4,_,rfl,y0,y1,y2,y3,y4,hj,f1,f2,f3,f4⟩
def bx5(t:TypeId)(a b c d e:Value):Obj:=.cells #[a,b,c,d,e] t
theorem f5k(h:BK w B v0 v1 K r1 r2 r3 X1 X2 X3)(hm:X1.length+X2.length+X3.length<=1000000000):
  Calls Tryz.prog 42 #[.pointer (some ⟨B,2,none⟩)] w fun e w'=>e=.returned (.bool true)/\Below w.heap.size w w':=by
 have HB:=a0b h;obtain⟨⟨p1,s1,e1⟩,⟨p2,s2,e2⟩,p3,s3,e3⟩:=h.forms;subst e1 e2 e3;clear h
 go_enter Tryz.func42,Tryz.ntmps42
 go_wp2_with fail
 have HW1:Hid (Below w.heap.size w w):=zr _ _
 go_loopw [3] (fun v wr=>∃ k:Nat,k<=X1.length/\v=.int .i64 k/\Below w.heap.size w wr) (fun v _=>X1.length-(intOf v).toNat)
 case atStart=>exact⟨0,Nat.zero_le _,rfl,HW1.out⟩
 case round =>
  obtain⟨k,hk,rfl,hbl⟩:=hrel;have HR:=a0b hbl;have hBr:=HB.out.later hbl;obtain⟨_,_,d2,d3,d4,_⟩:=hBr.cells;clear hbl
  by_cases hlt:k<X1.length
  ·have hlt':(k:Int)<(X1.length:Int):=by omega
   obtain⟨g,cap,a1,a2,a3,a4,j,c1,c2,c3,c4,m,e,y0,y1,y2,y3,y4,hj,f1,f2,f3,f4⟩:=hBr.br.b1.look hlt;simp only[Value.slice.injEq,true_and] at e;obtain⟨rfl,rfl⟩:=e;have FF:=a0b (fun W (kW:Below wr.heap.size wr W)=>And.intro (d2d j m _ W (f1.later kW).nv (by omega)) (And.intro (d2d (j+1) m _ W (f2.later kW).nv (by omega)) (And.intro (d2d (j+2) m _ W (f3.later kW).nv (by omega)) (d2d (j+3) m _ W (f4.later kW).nv (by omega)))));clear f1 f2 f3 f4 hBr
   go_upto_region 5 with fail
   change Code.wp _ _ _ _ (wr.alloc (bx5 tI (.slice a1 j c1) (.slice a2 (j+1) c2) (.slice a3 (j+2) c3) (.slice a4 (j+3) c4) (.int .i64 m)));have BX:=a0b (And.intro ((zr _ wr).alloc (zq _) (bx5 tI (.slice a1 j c1) (.slice a2 (j+1) c2) (.slice a3 (j+2) c3) (.slice a4 (j+3) c4) (.int .i64 m))) (a0p wr (bx5 tI (.slice a1 j c1) (.slice a2 (j+1) c2) (.slice a3 (j+2) c3) (.slice a4 (j+3) c4) (.int .i64 m))));generalize wr.alloc (bx5 tI (.slice a1 j c1) (.slice a2 (j+1) c2) (.slice a3 (j+2) c3) (.slice a4 (j+3) c4) (.int .i64 m))=Z0 at BX ⊢
   have CL:Hid (∀ W,Below Z0.heap.size Z0 W->W.cell? ⟨wr.heap.size,0,none⟩=some (.slice a1 j c1)/\W.cell? ⟨wr.heap.size,1,none⟩=some (.slice a2 (j+1) c2)/\W.cell? ⟨wr.heap.size,2,none⟩=some (.slice a3 (j+2) c3)/\W.cell? ⟨wr.heap.size,3,none⟩=some (.slice a4 (j+3) c4)/\W.cell? ⟨wr.heap.size,4,none⟩=some (.int .i64 m)):=fun W kW=>by
    have hb:=(kW.block _ (Array.getElem?_eq_some_iff.1 BX.out.2).1).trans BX.out.2;exact⟨d0h hb 0 rfl,d0h hb 1 rfl,d0h hb 2 rfl,d0h hb 3 rfl,d0h hb 4 rfl⟩
   clear y0 y1 y2 y3 y4 d2 d3 d4;obtain⟨x0,_,_,_,x4⟩:=CL.out _ (zr _ _)
   go_upto_region 6 with (first|(go_at_call 56;refine (FF.out _ BX.out.1).1.mono ?_;rintro e w1 ⟨rfl,h1⟩;have B1:=a0b h1;clear h1))
   clear x0 x4;obtain⟨_,x1,_,_,x4⟩:=CL.out _ B1.out
   go_upto_region 7 with (first|(go_at_call 56;refine (FF.out _ (a0j BX.out.1 B1.out (zq _))).2.1.mono ?_;rintro e w2 ⟨rfl,h2⟩;have B2:=a0b (a0j B1.out h2 (zq _));clear h2))
   clear x1 x4;obtain⟨_,_,x2,_,x4⟩:=CL.out _ B2.out
   go_upto_region 8 with (first|(go_at_call 56;refine (FF.out _ (a0j BX.out.1 B2.out (zq _))).2.2.1.mono ?_;rintro e w3 ⟨rfl,h3⟩;have B3:=a0b (a0j B2.out h3 (zq _));clear h3))
   clear x2 x4;obtain⟨_,_,_,x3,x4⟩:=CL.out _ B3.out
   go_upto_region 9 with (first|(go_at_call 56;refine (FF.out _ (a0j BX.out.1 B3.out (zq _))).2.2.2.mono ?_;rintro e w4 ⟨rfl,h4⟩;have B4:=a0b (a0j B3.out h4 (zq _));clear h4))
   go_wp2_with fail
   go_roundw
   case rel=>exact⟨k+1,by omega,by go_num,a0j HR.out (a0j BX.out.1 B4.out (zq _)) (zq _)⟩
   case measure=>simp[intOf];omega
  ·have hlt':¬ (k:Int)<(X1.length:Int):=by omega
   clear hBr
   go_wp2_with fail
   have HW2:=a0b HR.out;clear d2 d3 d4 hlt hlt' hk HR
   go_loopw [9] (fun v wr=>∃ k:Nat,k<=X2.length/\v=.int .i64 k/\Below w.heap.size w wr) (fun v _=>X2.length-(intOf v).toNat)
   case atStart=>exact⟨0,Nat.zero_le _,rfl,HW2.out⟩
   case round =>
    obtain⟨k,hk,rfl,hbl⟩:=hrel;have HR:=a0b hbl;have hBr:=HB.out.later hbl;obtain⟨_,_,d2,d3,d4,_⟩:=hBr.cells;clear hbl
    by_cases hlt:k<X2.length
    ·have hlt':(k:Int)<(X2.length:Int):=by omega
     obtain⟨g,cap,a1,a2,a3,a4,j,c1,c2,c3,c4,m,e,y0,y1,y2,y3,y4,hj,f1,f2,f3,f4⟩:=hBr.br.b2.look hlt;simp only[Value.slice.injEq,true_and] at e;obtain⟨rfl,rfl⟩:=e;have FF:=a0b (fun W (kW:Below wr.heap.size wr W)=>And.intro (d1s j m _ W (f1.later kW).sv (by omega)) (And.intro (d1s (j+1) m _ W (f2.later kW).sv (by omega)) (And.intro (d1s (j+2) m _ W (f3.later kW).sv (by omega)) (d1s (j+3) m _ W (f4.later kW).sv (by omega)))));clear f1 f2 f3 f4 hBr
     go_upto_region 15 with fail
     change Code.wp _ _ _ _ (wr.alloc (bx5 tS (.slice a1 j c1) (.slice a2 (j+1) c2) (.slice a3 (j+2) c3) (.slice a4 (j+3) c4) (.int .i64 m)));have BX:=a0b (And.intro ((zr _ wr).alloc (zq _) (bx5 tS (.slice a1 j c1) (.slice a2 (j+1) c2) (.slice a3 (j+2) c3) (.slice a4 (j+3) c4) (.int .i64 m))) (a0p wr (bx5 tS (.slice a1 j c1) (.slice a2 (j+1) c2) (.slice a3 (j+2) c3) (.slice a4 (j+3) c4) (.int .i64 m))));generalize wr.alloc (bx5 tS (.slice a1 j c1) (.slice a2 (j+1) c2) (.slice a3 (j+2) c3) (.slice a4 (j+3) c4) (.int .i64 m))=Z0 at BX ⊢
     have CL:Hid (∀ W,Below Z0.heap.size Z0 W->W.cell? ⟨wr.heap.size,0,none⟩=some (.slice a1 j c1)/\W.cell? ⟨wr.heap.size,1,none⟩=some (.slice a2 (j+1) c2)/\W.cell? ⟨wr.heap.size,2,none⟩=some (.slice a3 (j+2) c3)/\W.cell? ⟨wr.heap.size,3,none⟩=some (.slice a4 (j+3) c4)/\W.cell? ⟨wr.heap.size,4,none⟩=some (.int .i64 m)):=fun W kW=>by
      have hb:=(kW.block _ (Array.getElem?_eq_some_iff.1 BX.out.2).1).trans BX.out.2;exact⟨d0h hb 0 rfl,d0h hb 1 rfl,d0h hb 2 rfl,d0h hb 3 rfl,d0h hb 4 rfl⟩
     clear y0 y1 y2 y3 y4 d2 d3 d4;obtain⟨x0,_,_,_,x4⟩:=CL.out _ (zr _ _)
     go_upto_region 16 with (first|(go_at_call 57;refine (FF.out _ BX.out.1).1.mono ?_;rintro e w1 ⟨rfl,h1⟩;have B1:=a0b h1;clear h1))
     clear x0 x4;obtain⟨_,x1,_,_,x4⟩:=CL.out _ B1.out
     go_upto_region 17 with (first|(go_at_call 57;refine (FF.out _ (a0j BX.out.1 B1.out (zq _))).2.1.mono ?_;rintro e w2 ⟨rfl,h2⟩;have B2:=a0b (a0j B1.out h2 (zq _));clear h2))
     clear x1 x4;obtain⟨_,_,x2,_,x4⟩:=CL.out _ B2.out
     go_upto_region 18 with (first|(go_at_call 57;refine (FF.out _ (a0j BX.out.1 B2.out (zq _))).2.2.1.mono ?_;rintro e w3 ⟨rfl,h3⟩;have B3:=a0b (a0j B2.out h3 (zq _));clear h3))
     clear x2 x4;obtain⟨_,_,_,x3,x4⟩:=CL.out _ B3.out
     go_upto_region 19 with (first|(go_at_call 57;refine (FF.out _ (a0j BX.out.1 B3.out (zq _))).2.2.2.mono ?_;rintro e w4 ⟨rfl,h4⟩;have B4:=a0b (a0j B3.out h4 (zq _));clear h4))
     go_wp2_with fail
     go_roundw
     case rel=>exact⟨k+1,by omega,by go_num,a0j HR.out (a0j BX.out.1 B4.out (zq _)) (zq _)⟩
     case measure=>simp[intOf];omega
    ·have hlt':¬ (k:Int)<(X2.length:Int):=by omega
     clear hBr
     go_wp2_with fail
     have HW3:=a0b HR.out;clear d2 d3 d4 hlt hlt' hk HR
     go_loopw [15] (fun v wr=>∃ k:Nat,k<=X3.length/\v=.int .i64 k/\Below w.heap.size w wr) (fun v _=>X3.length-(intOf v).toNat)
     case atStart=>exact⟨0,Nat.zero_le _,rfl,HW3.out⟩
     case round =>
      obtain⟨k,hk,rfl,hbl⟩:=hrel;have HR:=a0b hbl;have hBr:=HB.out.later hbl;obtain⟨_,_,d2,d3,d4,_⟩:=hBr.cells;clear hbl
      by_cases hlt:k<X3.length
      ·have hlt':(k:Int)<(X3.length:Int):=by omega
       obtain⟨g,cap,a1,a2,a3,a4,j,c1,c2,c3,c4,m,e,y0,y1,y2,y3,y4,hj,f1,f2,f3,f4⟩:=hBr.br.b3.look hlt;simp only[Value.slice.injEq,true_and] at e;obtain⟨rfl,rfl⟩:=e;have FF:=a0b (fun W (kW:Below wr.heap.size wr W)=>And.intro (d0B j m _ W (f1.later kW).ev (by omega)) (And.intro (d0B (j+1) m _ W (f2.later kW).ev (by omega)) (And.intro (d0B (j+2) m _ W (f3.later kW).ev (by omega)) (d0B (j+3) m _ W (f4.later kW).ev (by omega)))));clear f1 f2 f3 f4 hBr
       go_upto_region 25 with fail
       change Code.wp _ _ _ _ (wr.alloc (bx5 tE (.slice a1 j c1) (.slice a2 (j+1) c2) (.slice a3 (j+2) c3) (.slice a4 (j+3) c4) (.int .i64 m)));have BX:=a0b (And.intro ((zr _ wr).alloc (zq _) (bx5 tE (.slice a1 j c1) (.slice a2 (j+1) c2) (.slice a3 (j+2) c3) (.slice a4 (j+3) c4) (.int .i64 m))) (a0p wr (bx5 tE (.slice a1 j c1) (.slice a2 (j+1) c2) (.slice a3 (j+2) c3) (.slice a4 (j+3) c4) (.int .i64 m))));generalize wr.alloc (bx5 tE (.slice a1 j c1) (.slice a2 (j+1) c2) (.slice a3 (j+2) c3) (.slice a4 (j+3) c4) (.int .i64 m))=Z0 at BX ⊢
       have CL:Hid (∀ W,Below Z0.heap.size Z0 W->W.cell? ⟨wr.heap.size,0,none⟩=some (.slice a1 j c1)/\W.cell? ⟨wr.heap.size,1,none⟩=some (.slice a2 (j+1) c2)/\W.cell? ⟨wr.heap.size,2,none⟩=some (.slice a3 (j+2) c3)/\W.cell? ⟨wr.heap.size,3,none⟩=some (.slice a4 (j+3) c4)/\W.cell? ⟨wr.heap.size,4,none⟩=some (.int .i64 m)):=fun W kW=>by
        have hb:=(kW.block _ (Array.getElem?_eq_some_iff.1 BX.out.2).1).trans BX.out.2;exact⟨d0h hb 0 rfl,d0h hb 1 rfl,d0h hb 2 rfl,d0h hb 3 rfl,d0h hb 4 rfl⟩
       clear y0 y1 y2 y3 y4 d2 d3 d4;obtain⟨x0,_,_,_,x4⟩:=CL.out _ (zr _ _)
       go_upto_region 26 with (first|(go_at_call 58;refine (FF.out _ BX.out.1).1.mono ?_;rintro e w1 ⟨rfl,h1⟩;have B1:=a0b h1;clear h1))
       clear x0 x4;obtain⟨_,x1,_,_,x4⟩:=CL.out _ B1.out
       go_upto_region 27 with (first|(go_at_call 58;refine (FF.out _ (a0j BX.out.1 B1.out (zq _))).2.1.mono ?_;rintro e w2 ⟨rfl,h2⟩;have B2:=a0b (a0j B1.out h2 (zq _));clear h2))
       clear x1 x4;obtain⟨_,_,x2,_,x4⟩:=CL.out _ B2.out
       go_upto_region 28 with (first|(go_at_call 58;refine (FF.out _ (a0j BX.out.1 B2.out (zq _))).2.2.1.mono ?_;rintro e w3 ⟨rfl,h3⟩;have B3:=a0b (a0j B2.out h3 (zq _));clear h3))
       clear x2 x4;obtain⟨_,_,_,x3,x4⟩:=CL.out _ B3.out
       go_upto_region 29 with (first|(go_at_call 58;refine (FF.out _ (a0j BX.out.1 B3.out (zq _))).2.2.2.mono ?_;rintro e w4 ⟨rfl,h4⟩;have B4:=a0b (a0j B3.out h4 (zq _));clear h4))
       go_wp2_with fail
       go_roundw
       case rel=>exact⟨k+1,by omega,by go_num,a0j HR.out (a0j BX.out.1 B4.out (zq _)) (zq _)⟩
       case measure=>simp[intOf];omega
      ·have hlt':¬ (k:Int)<(X3.length:Int):=by omega
       clear hBr
       go_wp2_with fail
       go_ret;exact⟨rfl,HR.out⟩
structure OpX where
 k:Int
 a:Int
 y:Int
 m:Int
 d:Int
 s:ByteArray
structure g4K(x:OpX):Prop where
 a1:-9223372036854775808<=x.a
 a2:x.a<=9223372036854775807
 d1:-9223372036854775808<=x.d
 d2:x.d<=9223372036854775807
 sz:x.s.size<=2000000
def g2D(w:World)(b o:Nat)(x:OpX):Prop:=w.cell? ⟨b,o,none⟩=some (.int .i64 x.k)/\w.cell? ⟨b,o+1,none⟩=some (.int .i64 x.a)/\w.cell? ⟨b,o+2,none⟩=some (.int .i64 x.y)/\w.cell? ⟨b,o+3,none⟩=some (.int .i64 x.m)/\w.cell? ⟨b,o+4,none⟩=some (.int .i64 x.d)/\w.cell? ⟨b,o+5,none⟩=some (.string x.s)
theorem g2D.later{b o:Nat}{x:OpX}(h:g2D w b o x)(k:Below w.heap.size w w'):g2D w' b o x:=by
 obtain⟨h0,h1,h2,h3,h4,h5⟩:=h;exact⟨a0a k h0,a0a k h1,a0a k h2,a0a k h3,a0a k h4,a0a k h5⟩
section
variable {w0 w w':World}{B n:Nat}
theorem LW.env(h:LW w0 w B n):Env w:=by
 obtain⟨tg,D,K,v0,v1,r1,r2,r3,X1,X2,X3,h⟩:=h;exact h.ds.env
theorem LW.bl(h:LW w0 w B n):Below w0.heap.size w0 w:=by
 obtain⟨tg,D,K,v0,v1,r1,r2,r3,X1,X2,X3,h⟩:=h;exact h.bl
theorem LW.looks(h:LW w0 w B n)(hn:n<=900000000):Calls Tryz.prog 42 #[.pointer (some ⟨B,2,none⟩)] w fun e w'=>e=.returned (.bool true)/\LW w0 w' B n:=by
 have h':=h;obtain⟨tg,D,K,v0,v1,r1,r2,r3,X1,X2,X3,h⟩:=h;refine (f5k h.bk (by have:=h.len;omega)).mono ?_;rintro e w1 ⟨rfl,hb⟩;exact⟨rfl,h'.later hb⟩
def zW:Obj:=.cells #[.slice none 0 0,.slice none 0 0,.slice none 0 0,.slice none 0 0,.slice none 0 0] 86
theorem LW.start(he:Env w):LW w (w.alloc zW) w.heap.size 0:=by
 have hb:Below w.heap.size w (w.alloc zW):=(zr _ _).alloc (zq _) _;have hs:(w.alloc zW).heap.size=w.heap.size+1:=by simp
 have h10:=he.size;have row:∀ {P:Int->List Value}{t:TypeId},e7E P t [] (w.alloc zW) (.slice none 0 0) []:=⟨World.ownsRow_nil _ _ _ _,by simp,by simp⟩;have bb:∀ b∈bkB w.heap.size (.slice none 0 0) (.slice none 0 0) (.slice none 0 0),b=w.heap.size:=fun b hb=>by simpa[bkB,Value.ownBlock] using hb
 refine⟨fun b=>if b=w.heap.size then .bk else .no,[],[],.slice none 0 0,.slice none 0 0,.slice none 0 0,.slice none 0 0,.slice none 0 0,[],[],[],⟨⟨fun i k hk=>by simp at hk,he.later hb,fun b hb=>?_,fun b hb=>if_neg (by omega)⟩,⟨a0p w _,⟨row,row,row,by simp⟩,by simp⟩,by simp,World.ownsRow_nil _ _ _ _,World.ownsRow_nil _ _ _ _,fun b hb=>if_pos (bb b hb),by simp,fun b hb=>(by cases hb),fun b hb=>(by cases hb),by simp,hb,fun b hb=>?_,h10⟩⟩
 ·by_cases e:b=w.heap.size
  ·omega
  ·exact (hb (if_neg e)).elim
 ·by_cases e:b=w.heap.size
  ·omega
  ·exact (hb (if_neg e)).elim
def opO(x:OpX):Obj:=.cells #[.int .i64 x.k,.int .i64 x.a,.int .i64 x.y,.int .i64 x.m,.int .i64 x.d,.string x.s] 89
def e2N(w:World)(a0:Option Addr)(len:Nat):Prop:=∀ i,i<len->∃ b off x,a0=some ⟨b,off,none⟩/\g2D w b (off+i*6) x/\g4K x
end
end Go.Proofs.YtfigmlfdnickmaaGreatDoor
