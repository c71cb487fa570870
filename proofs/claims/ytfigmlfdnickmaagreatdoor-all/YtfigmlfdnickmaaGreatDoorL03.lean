import Derived.Test.YtfigmlfdnickmaaGreatDoorL02
import Derived.Test.YtfigmlfdnickmaaGreatDoorProg
import Derived.Maps.OwnSet
import Derived.Maps.OwnOps
import Derived.Maps.Views
import Derived.Lib.IndexMore
import Derived.Lib.IndexLaws
import Derived.Lib.FieldsP
import Derived.Lib.Split
import Derived.Lib.SplitLaws
set_option maxRecDepth 100000
set_option maxHeartbeats 8000000
variable{name s:ByteArray}{e z:Go.Proofs.YtfigmlfdnickmaaGreatDoor.Desk.Ent}{b fr given id level long m tq x y:Int}{ts:List (ByteArray × Int)}{L:List (Int × Int)}{es:List Go.Proofs.YtfigmlfdnickmaaGreatDoor.Desk.Ent}{acc fs:List Int}{F:List Nat}{l:List UInt8}{cap d g i j n sz:Nat}{c0 c1 c2 c3 c4 c5 key v:Go.Value}{w w' w1:Go.World}
namespace Go.Proofs.YtfigmlfdnickmaaGreatDoor
open Go.RowKit
def g3V(w:World)(d:Nat)(ts:List (ByteArray × Int))(xs:List (Desk.Ent × Nat × Nat))(given now:Int)(F:List Nat)(w':World):Prop :=
 ∃ F',RD w' d ts xs given now F'/\(∀ k∈F',k∈F\/w.heap.size<=k)/\Off F w w'
theorem RD.set2{xs:List (Desk.Ent × Nat × Nat)}{now:Int}(h:RD w d ts xs given now F)(g:Int):RD (w.setCell ⟨d,2,none⟩ (.int .i64 g)) d ts xs g now F:=by
 obtain⟨v1,a1,a2,a3⟩:=h.tv;obtain⟨v2,b1,b2,b3⟩:=h.ev;have k:Off [d] w (w.setCell ⟨d,2,none⟩ (.int .i64 g)):=Off.set0 ..
 exact⟨⟨v1,(zS _ _ _ _ (by simp)).trans a1,a1i a2 k (fun b hb=>by simpa using (a3 b hb).2),a3⟩,⟨v2,(zS _ _ _ _ (by simp)).trans b1,a1i b2 k (fun b hb=>by simpa using (b3 b hb).2),b3⟩,World.cell?_setCell_same _ _ _ h.c2,(zS _ _ _ _ (by simp)).trans h.c3,
  fun o=>(zF ..).trans (h.fz o),h.dF,fun x hx=>⟨(h.sp x hx).1.off k (by simp;intro e;exact (h.sp x hx).2.1 (e ▸ h.dF)),(h.sp x hx).2.1,Nat.lt_of_lt_of_le (h.sp x hx).2.2 k.size⟩⟩
theorem c7O{base e size:Nat}{xs:List Value}(h:w.ownsRow base e size v n xs){b:Nat}(hb:v.ownBlock=some b):b<w.heap.size:=by
 rcases h.2 with ⟨rfl,_⟩|⟨g,cap,cur,rfl,_,hh,_⟩
 ·simp[Value.ownBlock] at hb
 ·simp[Value.ownBlock] at hb;subst hb
  by_cases hx:g<w.heap.size
  ·exact hx
  ·rw[Array.getElem?_eq_none (by omega)] at hh;cases hh
theorem Off.grown{w'':World}{row:Option Nat}(h:Off F w w')(g:w'.grownBy w'' row)(hr:∀ k,row=some k->k∈F\/w.heap.size<=k):Off F w w'' :=
 ⟨g.os.trans h.os,g.tape.trans h.tape,g.output.trans h.output,Nat.le_trans h.size g.size,fun k hk hF=>(g.block k (zL hk h.size) (fun e=>by rcases hr k e.symm with h1|h1;exact hF h1;omega)).trans (h.block k hk hF)⟩
theorem RD.a5d{Y w5:World}{xs:List (Desk.Ent × Nat × Nat)}{now:Int}{x:Desk.Ent × Nat × Nat}(h:RD Y d ts xs given now F)(cv:Y.cell? ⟨d,1,none⟩=some v)(ho:Y.ownsRow 0 58 6 v xs.length (xs.flatMap c7a))(hvF:∀ k,v.ownBlock=some k->k∈F/\k≠d)(k:Off (v.ownBlock.toList) Y w5)(ho5:w5.ownsRow 0 58 6 (.slice (some ⟨g,0,none⟩) (xs.length+1) cap) (xs.length+1) (xs.flatMap c7a++c7a x))(hg:v.ownBlock=some g\/Y.heap.size<=g)(hx:RSL Y x.2.1 x.1.a0e)(hxF:x.2.1 ∉ F)(hxl:x.2.1<Y.heap.size):
  RD (w5.setCell ⟨d,1,none⟩ (.slice (some ⟨g,0,none⟩) (xs.length+1) cap)) d ts (xs++[x]) given now (g :: F)/\Off (d :: v.ownBlock.toList) Y (w5.setCell ⟨d,1,none⟩ (.slice (some ⟨g,0,none⟩) (xs.length+1) cap)):=by
 obtain⟨v1,a1,a2,a3⟩:=h.tv;have hdl:=World.block_lt_of_cell? _ _ h.c2;have hdl:d<Y.heap.size:=hdl
 have hgd:g≠d:=by
  rcases hg with e|e
  ·exact (hvF g e).2
  ·omega
 have hdv:d ∉ v.ownBlock.toList:=by
  intro e;have:v.ownBlock=some d:=by simpa using e
  exact (hvF d this).2 rfl
 have hv1:∀ b,v1.ownBlock=some b->b ∉ d :: v.ownBlock.toList:=by
  intro b hb e;rcases List.mem_cons.1 e with e|e
  ·exact (a3 b hb).2 e
  ·have e:v.ownBlock=some b:=by simpa using e
   rcases ho.2 with ⟨rfl,_⟩|⟨g',cap',cur,rfl,_,hh,_⟩
   ·simp[Value.ownBlock] at e
   ·simp[Value.ownBlock] at e;subst e;exact c8L a2 hh (by decide) hb
 have hF1:∀ y,y ∉ F->y ∉ d :: v.ownBlock.toList:=by
  intro y hy e;rcases List.mem_cons.1 e with rfl|e
  ·exact hy h.dF
  ·exact hy (hvF y (by simpa using e)).1
 have k1:Off (d :: v.ownBlock.toList) Y (w5.setCell ⟨d,1,none⟩ (.slice (some ⟨g,0,none⟩) (xs.length+1) cap)):=(k.mono (by intro y hy;exact List.mem_cons_of_mem _ hy)).setCell (.inl (by simp)) _ _
 have ksp:∀ y∈xs++[x],RSL Y y.2.1 y.1.a0e/\y.2.1 ∉ F/\y.2.1<Y.heap.size:=by
  intro y hy;rcases List.mem_append.1 hy with hy|hy
  ·exact h.sp y hy
  ·have:y=x:=by simpa using hy
   subst this;exact⟨hx,hxF,hxl⟩
 have cd:∀ o u,Y.cell? ⟨d,o,none⟩=some u->o≠1->(w5.setCell ⟨d,1,none⟩ (.slice (some ⟨g,0,none⟩) (xs.length+1) cap)).cell? ⟨d,o,none⟩=some u:=by
  intro o u hu ho1;exact (zS _ _ _ _ (by simp)).trans (k.cell hdv hu)
 refine⟨⟨⟨v1,cd 0 _ a1 (by omega),a1i a2 k1 hv1,fun b hb=>⟨List.mem_cons_of_mem _ (a3 b hb).1,(a3 b hb).2⟩⟩,⟨_,World.cell?_setCell_same _ _ _ (k.cell hdv cv),?_,?_⟩,cd 2 _ h.c2 (by omega),cd 3 _ h.c3 (by omega),fun o=>(zF ..).trans ((k.frozen hdv hdl).trans (h.fz o)),List.mem_cons_of_mem _ h.dF,?_⟩,k1⟩
 ·rw[List.flatMap_append,List.length_append];have e1:([x].flatMap c7a)=c7a x:=by simp
  rw[e1];exact a1i ho5 (Off.set0 ..) (fun b hb=>by simp[Value.ownBlock] at hb;subst hb;simpa using hgd)
 ·intro b hb;simp[Value.ownBlock] at hb;subst hb;exact⟨by simp,hgd⟩
 ·intro y hy;obtain⟨y1,y2,y3⟩:=ksp y hy;refine⟨y1.off k1 (hF1 _ y2),fun e=>?_,Nat.lt_of_lt_of_le y3 k1.size⟩;rcases List.mem_cons.1 e with e|e
  ·rcases hg with e2|e2
   ·exact y2 (e ▸ (hvF g e2).1)
   ·omega
  ·exact y2 e
theorem c3a:(Tryz.prog.info? 286).map (fun i=>(i.zero,i.size,i.bytes))=some (some (.agg #[.int .i64 0,.int .i64 0,.pointer none]),3,24):=by kernel_rfl
theorem c3d(d o:Nat)(v:Value)(l:List Hp.Hi)(x:Hp.Hi)(w:World)(h:HP w d o v l)(hh:Hp.a6r l)(hl:l.length<=900):
  Calls Tryz.prog 198 #[.pointer (some ⟨d,o,none⟩),.int .i64 x.t,.int .i64 x.n,.pointer (some ⟨x.v,0,none⟩)] w fun e w'=>e=.returned (.tuple #[])/\∃ l',a2i w d o v l' w'/\Hp.a6r l'/\l'.Perm (l++[x]):=by
 obtain⟨i0,hi0,hz0,hz1,hz2⟩:=info_parts c3a;have c:=h.c;have fd:=h.fz;have H:=a0b h;clear h
 go_enter Tryz.func198,Tryz.ntmps198
 have hdl:d<w.heap.size:=World.block_lt_of_cell? _ _ c;have hdv:d ∉ v.ownBlock.toList:=by intro e;exact H.out.ne (by simpa using e)
 go_wp2_with (first
  |(at_builtin;refine wpList_append_lies _ rfl _ _ 140 rfl 0 286 i0 _ 3 24 Tryz.underlying140 hi0 hz0 hz1 hz2 rfl (by decide) _ _ _ rfl (H.out.own.alloc _) ⟨w.heap.size,0,none⟩ 1 1 (a9Z x) rfl rfl (World.news_of_block (cs:=(a9Z x).toArray) (a0p w _)) (by simp[a9Z,Value.oneCell']) (by omega) (by unfold maxLen;omega) (by omega) (by simp) (w.heap.size+1) (by simp) ?_;intro g cap w1 hown hgrow hat hlt;have kk:Off (v.ownBlock.toList) w w1:=Off.grown ((Off.refl _ w).alloc _) hgrow (fun k hk=>.inl (Option.mem_toList.2 hk));have z1:=kk.cell hdv c;have z2:=(kk.frozen (o:=o) hdv hdl).trans fd;clear hgrow))
 have hgd:d≠g:=by
  rcases hat with e|e
  ·rintro rfl;exact H.out.ne e
  ·omega
 have hz:HP (w1.setCell ⟨d,o,none⟩ (.slice (some ⟨g,0,none⟩) (l.length+1) cap)) d o (.slice (some ⟨g,0,none⟩) (l++[x]).length cap) (l++[x]):=by
  have el:(l++[x]).length=l.length+1:=by simp
  rw[el];refine⟨zm _ _ _ z1,?_,fun e=>hgd (by simpa[Value.ownBlock] using e.symm),(zF ..).trans z2⟩;rw[el,List.flatMap_append];have e2:[x].flatMap a9Z=a9Z x:=by simp
  rw[e2];exact a1i hown (Off.set0 d _ o _) (fun b hb=>by simp;rintro rfl;exact hgd (by simpa[Value.ownBlock] using hb.symm))
 have RS:=a0b (b6g d o g cap (l++[x]) l.length _ hz (by simp) (Hp.c2v hh) (by simp;omega));have KK:=a0b (And.intro kk hat);clear hz hown kk hat z1 z2 fd c;refine RS.out.mono ?_;rintro e w5 ⟨rfl,l',t',r'⟩
 have HF:Hid (∃ l',a2i w d o v l' w5/\Hp.a6r l'/\l'.Perm (l++[x])):=by
  refine⟨l',⟨_,t'.hp,fun b hb=>?_,?_,fun o' ho=>?_,fun o'=>?_⟩,r',t'.perm⟩
  ·have:g=b:=by simpa[Value.ownBlock] using hb
   subst this;rcases KK.out.2 with e|e
   ·exact .inl e
   ·exact .inr (by omega)
  ·refine ((KK.out.1.mono (by simp +contextual)).setCell (.inl (by simp)) o _).trans' t'.off (fun k hk=>?_);have:k=g:=by simpa using hk
   subst this;rcases KK.out.2 with e|e
   ·exact .inl (List.mem_cons_of_mem _ (Option.mem_toList.2 e))
   ·exact .inr (by omega)
  ·have b5:=t'.off.block d (by have:=KK.out.1.size;simp;omega) (by simpa using hgd);exact (zo b5).trans ((zS _ _ _ _ (by have:=ho;simp)).trans (zo (KK.out.1.block d hdl hdv)))
  ·have b5:=t'.off.block d (by have:=KK.out.1.size;simp;omega) (by simpa using hgd);exact (World.frozen?_of_block b5).trans ((zF ..).trans (World.frozen?_of_block (KK.out.1.block d hdl hdv)))
 clear RS KK t' r'
 go_wp2_with fail
 go_end0
 exact⟨rfl,HF.out⟩
def a3z{α:Type}(p:α->Bool):List α->Int->Int
 |[],_=>-1
 |x :: r,i=>if p x then i else a3z p r (i+1)
theorem a7F{α:Type}(p:α->Bool):∀ (l:List α)(i:Int),(a3z p l i=-1/\∀ x∈l,p x=false)\/∃ (k:Nat)(h:k<l.length),a3z p l i=i+k/\p l[k]=true/\∀ (j:Nat)(hj:j<k),p (l[j]'(by omega))=false
 |[],i=>.inl ⟨rfl,fun x hx=>by simp at hx⟩
 |x :: r,i=>by
  cases hp:p x
  ·rcases a7F p r (i+1) with ⟨h1,h2⟩|⟨k,h,h1,h2,h3⟩
   ·exact .inl ⟨by simp[a3z,hp,h1],fun y hy=>by rcases List.mem_cons.1 hy with rfl|hy;exact hp;exact h2 y hy⟩
   ·refine .inr ⟨k+1,by simp;omega,by simp[a3z,hp,h1];omega,by simpa using h2,fun j hj=>?_⟩
    cases j with
    |zero=>simpa using hp
    |succ j=>simpa using h3 j (by omega)
  ·exact .inr ⟨0,by simp,by simp[a3z,hp],by simpa using hp,fun j hj=>by omega⟩
theorem c5d{α:Type}(p:α->Bool)(l:List α):-1<=a3z p l 0/\a3z p l 0<l.length:=by
 rcases a7F p l 0 with ⟨h,_⟩|⟨k,h,e,_⟩
 ·omega
 ·omega
theorem a2i.from{w2:World}{o:Nat}{l':List Hp.Hi}(h:a2i w1 d o v l' w2)(k:Below w.heap.size w w1)(hd:d<w.heap.size):a2i w d o v l' w2:=by
 obtain⟨v',h1,h2,h3,h4,h5⟩:=h;refine⟨v',h1,fun b hb=>(h2 b hb).imp id (fun e=>Nat.le_trans k.size e),(Off.of_below k).trans h3,fun o' ho=>(h4 o' ho).trans (zo (k.block d hd)),fun o'=>(h5 o').trans (World.frozen?_of_block (k.block d hd))⟩
theorem c0Y(x:Hp.Hi)(t n:Int)(A B:Nat)(w:World)(ca:w.cell? ⟨A,0,none⟩=some (.int .i64 t))(cb:w.cell? ⟨B,0,none⟩=some (.int .i64 n)):
  Calls Tryz.prog 202 #[.agg #[.int .i64 x.t,.int .i64 x.n,.pointer (some ⟨x.v,0,none⟩)],.pointer (some ⟨A,0,none⟩),.pointer (some ⟨B,0,none⟩)] w fun e w'=>e=.returned (.bool (a8y x t n==0))/\Below w.heap.size w w':=by
 have CM:=a0b (fun w'=>a8e x t n w');have hX:Below w.heap.size w (w.alloc (.cells #[.int .i64 x.t,.int .i64 x.n,.pointer (some ⟨x.v,0,none⟩)] 286)):=(zr _ _).alloc (zq _) _;have xa:=a0a hX ca;have xb:=a0a hX cb;have HX:=a0b hX;clear hX
 go_enter Tryz.func202,Tryz.ntmps202
 go_wp2_with fail
 refine (CM.out _).mono ?_;rintro e w1 ⟨rfl,k1⟩;have HK:=a0b (a0j HX.out k1 (zq _));clear k1 xa xb
 go_wp2_with fail
 go_ret;exact⟨rfl,HK.out⟩
theorem b1U(l:List Hp.Hi)(t n:Int)(v:Value)(A B:Nat)(w:World)(own:w.ownsRow 0 286 3 v l.length (l.flatMap a9Z))(ca:w.cell? ⟨A,0,none⟩=some (.int .i64 t))(cb:w.cell? ⟨B,0,none⟩=some (.int .i64 n))(hl:l.length<=1000):
  Calls Tryz.prog 201 #[v,.func (.func 202) #[] #[.pointer (some ⟨A,0,none⟩),.pointer (some ⟨B,0,none⟩)]] w fun e w'=>e=.returned (.int .i64 (a3z (fun x=>a8y x t n==0) l 0))/\Below w.heap.size w w':=by
 have hv:∃ a cap,v=.slice a l.length cap:=by
  rcases own.2 with ⟨rfl,h⟩|⟨g,cap,_,rfl,_⟩
  ·rw[h];exact⟨_,_,rfl⟩
  ·exact⟨_,_,rfl⟩
 obtain⟨a,cap,rfl⟩:=hv;have CAB:=a0b (And.intro ca cb);have OWN:=a0b own;clear ca cb own
 go_enter Tryz.func201,Tryz.ntmps201
 go_wp2_with fail
 go_loopw [8] (fun i wx=>∃ k:Nat,k<=l.length/\i=.int .i64 k/\a3z (fun x=>a8y x t n==0) l 0=a3z (fun x=>a8y x t n==0) (l.drop k) k/\Below w.heap.size w wx) (fun i _=>l.length-(intOf i).toNat)
 case atStart=>exact⟨0,Nat.zero_le _,rfl,rfl,Below.refl _ _⟩
 case round =>
  obtain⟨k,hk,rfl,hu,hb⟩:=hrel;have HU:=a0b hu;have HB:=a0b hb
  by_cases hlt:k<l.length
  ·have hi:(k:Int)<(l.length:Int):=by omega
   obtain⟨H,cap',e1⟩:=Joins.ownsRow_form OWN.out (by omega);simp only[Value.slice.injEq,true_and] at e1;obtain⟨rfl,rfl⟩:=e1;have ownr:=a1g OWN.out hb;have a0:=(ownr.cellAt (k*3) (by omega)).trans (a5H hlt (j:=0) (by omega));have a1:=(ownr.cellAt (k*3+1) (by omega)).trans (a5H hlt (j:=1) (by omega));have a2:=(ownr.cellAt (k*3+2) (by omega)).trans (a5H hlt (j:=2) (by omega));simp only[a9Z,List.getElem?_cons_zero,List.getElem?_cons_succ] at a0 a1 a2;have D1:=a0b (c0Y l[k] t n A B wr (a0a hb CAB.out.1) (a0a hb CAB.out.2));have ed:a3z (fun x=>a8y x t n==0) (l.drop k) k=if a8y l[k] t n==0 then (k:Int) else a3z (fun x=>a8y x t n==0) (l.drop (k+1)) ((k+1:Nat):Int):=by rw[List.drop_eq_getElem_cons hlt];rfl
   have ED:=a0b ed;clear ed ownr hb hu
   cases hq:(a8y l[k] t n==0)
   ·have HN:Hid (a3z (fun x=>a8y x t n==0) l 0=a3z (fun x=>a8y x t n==0) (l.drop (k+1)) ((k+1:Nat):Int)):=by show _=_;rw[HU.out,ED.out,hq];rfl
    rw[hq] at D1;clear hq
    go_wp2_with fail
    refine D1.out.mono ?_;rintro e w1 ⟨rfl,k1⟩;have HK:=a0b (a0j HB.out k1 (zq _));clear k1 a0 a1 a2 D1
    go_wp2_with fail
    go_roundw
    case rel=>exact⟨k+1,by omega,by go_num,HN.out,HK.out⟩
    case measure=>simp[intOf];omega
   ·have HN:Hid (a3z (fun x=>a8y x t n==0) l 0=k):=by show _=_;rw[HU.out,ED.out,hq];rfl
    rw[hq] at D1;clear hq
    go_wp2_with fail
    refine D1.out.mono ?_;rintro e w1 ⟨rfl,k1⟩;have HK:=a0b (a0j HB.out k1 (zq _));clear k1 a0 a1 a2 D1
    go_wp2_with fail
    go_ret;exact⟨a1L HN.out.symm,HK.out⟩
  ·have hi:¬ (k:Int)<(l.length:Int):=by omega
   have e:l.drop k=[]:=List.drop_eq_nil_of_le (by omega);have HN:Hid (a3z (fun x=>a8y x t n==0) l 0=-1):=by show _=_;rw[HU.out,e];rfl
   clear hu hb e
   go_wp2_with fail
   go_ret;exact⟨a1L HN.out.symm,HB.out⟩
theorem c0G(d o:Nat)(v:Value)(l:List Hp.Hi)(t n:Int)(w:World)(h:HP w d o v l)(hh:Hp.a6r l)(hl:l.length<=1000):
  Calls Tryz.prog 149 #[.pointer (some ⟨d,o,none⟩),.int .i64 t,.int .i64 n] w fun e w'=>e=.returned (.tuple #[]) /\
   (((∀ x∈l,¬ (x.t=t/\x.n=n))/\Below w.heap.size w w')\/∃ (x:Hp.Hi) (l':List Hp.Hi),x.t=t/\x.n=n/\a2i w d o v l' w'/\Hp.a6r l'/\l.Perm (x :: l')):=by
 have hX:Below w.heap.size w ((w.alloc (.cells #[.int .i64 t] 3)).alloc (.cells #[.int .i64 n] 3)):=((zr _ _).alloc (zq _) _).alloc (by simp) _;have hx:=h.later hX;have c:=hx.c;have xa:((w.alloc (.cells #[.int .i64 t] 3)).alloc (.cells #[.int .i64 n] 3)).cell? ⟨w.heap.size,0,none⟩=some (.int .i64 t):=by simp
 have xb:((w.alloc (.cells #[.int .i64 t] 3)).alloc (.cells #[.int .i64 n] 3)).cell? ⟨w.heap.size+1,0,none⟩=some (.int .i64 n):=by
  have:=a0p (w.alloc (.cells #[.int .i64 t] 3)) (.cells #[.int .i64 n] 3);rw[World.size_alloc] at this;simp only[World.cell?,this];rfl
 have IX:=a0b (b1U l t n v w.heap.size (w.heap.size+1) _ hx.own xa xb hl);have HX:=a0b (And.intro hX hx);have hdl:d<w.heap.size:=World.block_lt_of_cell? _ _ h.c;have bd:=c5d (fun x=>a8y x t n==0) l;have hq:=a7F (fun x=>a8y x t n==0) l 0;clear hX hx xa xb h;generalize a3z (fun x=>a8y x t n==0) l 0=q at *;have HQ:=a0b hq;clear hq
 go_enter Tryz.func149,Tryz.ntmps149
 go_wp2_with fail
 generalize ((w.alloc (.cells #[.int .i64 t] 3)).alloc (.cells #[.int .i64 n] 3))=X at *;refine IX.out.mono ?_;rintro e w1 ⟨rfl,k1⟩;have H1:=a0b (And.intro (a0j HX.out.1 k1 (zq _)) (HX.out.2.later k1));clear k1 IX c HX
 by_cases h0:0<=q
 ·obtain⟨k,hk,e1,e2,e3⟩:∃ (k:Nat) (h:k<l.length),q=k/\(a8y l[k] t n==0)=true/\True:=by
   rcases HQ.out with ⟨h,_⟩|⟨k,h,e,e2,_⟩
   ·omega
   ·exact⟨k,h,by omega,e2,trivial⟩
  subst e1;have RM:=a0b (b0y d o v l k w1 H1.out.2 hh hk hl);have HE:=a0b e2;clear e2 e3 HQ
  go_wp2_with fail
  refine RM.out.mono ?_;rintro e w2 ⟨rfl,l',p1,p2,p3⟩
  have HF:Hid (∃ (x:Hp.Hi) (l':List Hp.Hi),x.t=t/\x.n=n/\a2i w d o v l' w2/\Hp.a6r l'/\l.Perm (x :: l')):=by
   have e2:a8y l[k] t n=0:=by simpa using HE.out
   obtain⟨q1,q2⟩:=(b3w _ _ _).1 e2;refine⟨Hp.at_ l k,l',by rw[Hp.a4H hk];exact q1,by rw[Hp.a4H hk];exact q2,p1.from H1.out.1 hdl,p2,p3⟩
  clear p1 p2 p3 RM
  go_wp2_with fail
  go_end0
  exact⟨rfl,.inr HF.out⟩
 ·have HF:Hid (∀ x∈l,¬ (x.t=t/\x.n=n)):=by
   rcases HQ.out with ⟨_,h⟩|⟨k,h,e,_⟩
   ·intro x hx e;have:=h x hx;have e0:=(b3w x t n).2 e;simp[e0] at this
   ·omega
  clear HQ
  go_wp2_with fail
  go_end0
  exact⟨rfl,.inl ⟨HF.out,H1.out.1⟩⟩
open Go Go.Maps
def c6O(o:Option Nat):Value:=.pointer (o.map fun b=>⟨b,0,none⟩)
def b1A(o:Option Nat):DataW Unit:=.lit (.int .i64 (match o with|none=>-1|some b=>(b:Int)))
def c2C:Value->Option (DataW Unit × List MemPlace)
 |.pointer none=>some (b1A none,[])
 |.pointer (some ⟨b,0,none⟩)=>some (b1A (some b),[])
 |_=>none
theorem c4S(o:Option Nat):c2C (c6O o)=some (b1A o,[]):=by cases o <;> rfl
theorem b6i{a b:Option Nat}(h:b1A a=b1A b):a=b:=by
 unfold b1A at h
 cases a <;> cases b <;> simp at h ⊢ <;> omega
theorem c2B{o:Option Nat}{ps:List MemPlace}(h:c2C v=some (b1A o,ps)):v=c6O o:=by
 unfold c2C at h
 split at h
 ·have e:b1A none=b1A o:=congrArg Prod.fst (Option.some.inj h);have:=b6i e;subst this;rfl
 ·rename_i b
  have e:b1A (some b)=b1A o:=congrArg Prod.fst (Option.some.inj h);have:=b6i e;subst this;rfl
 ·cases h
noncomputable def upd(f:Lit->Option Nat)(kl:Lit)(o:Option Nat)(x:Lit):Option Nat:=@ite _ (x=kl) (Classical.propDecidable _) o (f x)
theorem a4f(f:Lit->Option Nat)(kl:Lit)(o:Option Nat):upd f kl o kl=o:=if_pos rfl
theorem a3n(f:Lit->Option Nat){kl x:Lit}(o:Option Nat)(h:x≠kl):upd f kl o x=f x:=if_neg h
def a4N(P:Program)(k:TypeId)(w:World)(b n:Nat)(f:Lit->Option Nat)(sz:Nat):Prop :=
 ∃ D,w.ownsMap P k c2C b n D/\Maps.size D=sz/\(∀ kl,D.atKey kl (b1A none)=b1A (f kl))/\∀ kl,Maps.has D kl=(f kl).isSome
theorem a4N.block{P:Program}{k:TypeId}{b:Nat}{f:Lit->Option Nat}(h:a4N P k w b n f sz)(hb:w'.heap[b]?=w.heap[b]?):a4N P k w' b n f sz:=by
 obtain⟨D,⟨es,clock,h1,h2⟩,h3⟩:=h;exact⟨D,⟨es,clock,hb.trans h1,h2⟩,h3⟩
theorem a4N.tight{P:Program}{k:TypeId}{b:Nat}{f:Lit->Option Nat}(h:a4N P k w b n f sz):a4N P k w b sz f sz:=by
 obtain⟨D,⟨es,clock,h1,h2,h3,h4⟩,h5,h6⟩:=h;refine⟨D,⟨es,clock,h1,h2,?_,h4⟩,h5,h6⟩;rw[<- h5,h4,Maps.size_eq,length_sorted];simp
theorem a4N.made(P:Program)(k:TypeId)(w:World):a4N P k (w.alloc (.map #[] 0)) w.heap.size 0 (fun _=>none) 0 :=
 ⟨.map [],World.ownsMap_made w P k c2C,rfl,fun _=>rfl,fun _=>rfl⟩
theorem a4N.look{P:Program}{k e t:TypeId}{b:Nat}{f:Lit->Option Nat}(h:a4N P k w b n f sz)(K:Keyed P k)(ht:P.underlying t=some (.map k e))(hz:(zeroValue e).run P w=.ok (.pointer none) w){kl:Lit}(hkey:keyOf P k key=some kl):
  (Instr.lookup t (.map (some b)) key false).run P w=.ok (c6O (f kl)) w:=by
 obtain⟨D,h1,_,h3,_⟩:=h;obtain⟨v,ps,hrun,hv⟩:=h1.lookup K ht hz (zd:=b1A none) (zp:=[]) rfl hkey;rw[h3] at hv;rw[hrun,c2B hv]
theorem a4N.len{P:Program}{k e t:TypeId}{b:Nat}{f:Lit->Option Nat}(h:a4N P k w b n f sz)(ht:P.underlying t=some (.map k e))(ty:TypeId):(Builtin.len_ #[t] ty #[.map (some b)]).run P w=.ok (.int .i64 sz) w:=by
 obtain⟨D,h1,h2,_⟩:=h;rw[h1.len ht ty,h2]
theorem a4N.put{P:Program}{k:TypeId}{b:Nat}{f:Lit->Option Nat}{D:DataW Unit}{kl:Lit}{p:Nat}(K:Keyed P k)(w:World)(hD:w.ownsMap P k c2C b n D)(h:w'.ownsMap P k c2C b (n+1) (D.put kl (b1A (some p))))(hk:WideAt.IsKeyLit kl)(h3:∀ kl,D.atKey kl (b1A none)=b1A (f kl))(h4:∀ kl,Maps.has D kl=(f kl).isSome):
  a4N P k w' b (n+1) (upd f kl (some p)) (if (f kl).isSome then Maps.size D else Maps.size D+1):=by
 refine⟨_,h,?_,fun x=>?_,fun x=>?_⟩
 ·rw[Maps.size_put (hD.tidy K),h4]
 ·by_cases c:x=kl
  ·rw[c,a4f,Maps.atKey_put_same hD.isMap hk]
  ·rw[a3n f _ c,Maps.atKey_put_other c,h3]
 ·by_cases c:x=kl
  ·rw[c,a4f,Maps.has_put_same hD.isMap hk];rfl
  ·rw[a3n f _ c,Maps.has_put_other c,h4]
theorem a4N.del{P:Program}{k:TypeId}{b:Nat}{f:Lit->Option Nat}{D:DataW Unit}{kl:Lit}(K:Keyed P k)(w:World)(hD:w.ownsMap P k c2C b n D)(h:w'.ownsMap P k c2C b n (D.del kl))(h3:∀ kl,D.atKey kl (b1A none)=b1A (f kl))(h4:∀ kl,Maps.has D kl=(f kl).isSome):
  a4N P k w' b n (upd f kl none) (Maps.size D-if (f kl).isSome then 1 else 0):=by
 refine⟨_,h,?_,fun x=>?_,fun x=>?_⟩
 ·have:=Maps.size_del (k:=kl) (hD.tidy K);rw[h4] at this;omega
 ·by_cases c:x=kl
  ·rw[c,a4f,Maps.atKey_del_same]
  ·rw[a3n f _ c,Maps.atKey_del_other c,h3]
 ·by_cases c:x=kl
  ·rw[c,a4f,Maps.has_del_same];rfl
  ·rw[a3n f _ c,Maps.has_del_other c,h4]
theorem a4N.dropRun{P:Program}{k e t:TypeId}{b:Nat}{f:Lit->Option Nat}(h:a4N P k w b n f sz)(K:Keyed P k)(ht:P.underlying t=some (.map k e)){kl:Lit}(hkey:keyOf P k key=some kl)(ty:TypeId):
  ∃ w',(Builtin.delete_ #[t,k] ty #[.map (some b),key]).run P w=.ok (.tuple #[]) w'/\a4N P k w' b n (upd f kl none) (sz-if (f kl).isSome then 1 else 0)/\w.grownBy w' (some b):=by
 obtain⟨D,h1,h2,h3,h4⟩:=h;obtain⟨w',hrun,r1,r2⟩:=h1.drop K ht hkey ty;refine⟨w',hrun,?_,r2.grown⟩;rw[<- h2];exact a4N.del K w h1 r1 h3 h4
theorem a4N.storeRun{P:Program}{k e t:TypeId}{b:Nat}{f:Lit->Option Nat}(h:a4N P k w b n f sz)(K:Keyed P k)(ht:P.underlying t=some (.map k e))(hn:n<maxLen){kl:Lit}(hkey:keyOf P k key=some kl)(hlit:WideAt.IsKeyLit kl)(p:Nat):
  ∃ w',(Instr.mapUpdate t (.map (some b)) key (c6O (some p))).run P w=.ok () w'/\a4N P k w' b (n+1) (upd f kl (some p)) (if (f kl).isSome then sz else sz+1)/\w.grownBy w' (some b):=by
 obtain⟨D,h1,h2,h3,h4⟩:=h;obtain⟨w',hrun,r1,r2⟩:=h1.update K ht hn hkey (c4S (some p));refine⟨w',hrun,?_,r2⟩;rw[<- h2];exact a4N.put K w h1 r1 hlit h3 h4
section
variable {P:Program}(w:World) {ops:Array Oper}{rest:List Oper}{o:Oper}{a:Act}{Q:Exit->Act->World->Prop}
end
end Go.Proofs.YtfigmlfdnickmaaGreatDoor
namespace Go.Proofs.YtfigmlfdnickmaaGreatDoor.Cal
def ah(y:Int):Int:=(y-1)*365+(y-1) / 4-(y-1) / 100+(y-1) / 400
def c2U(y:Int):Bool:=y % 4==0 && (y % 100 != 0 || y % 400==0)
def lp(y:Int):Int:=if c2U y then 1 else 0
def tab(m:Int):Int:=if m=2 then 28 else if m=4\/m=6\/m=9\/m=11 then 30 else 31
def dim(y m:Int):Int:=if m=2 then 28+lp y else tab m
def cum(y m:Int):Int :=
 if m<=1 then 0 else if m=2 then 31 else lp y+(if m=3 then 59 else if m=4 then 90 else if m=5 then 120 else if m=6 then 151 else if m=7 then 181 else if m=8 then 212 else if m=9 then 243 else if m=10 then 273 else if m=11 then 304 else if m=12 then 334 else 365)
def first:Int:=-738885
def last:Int:=2913173
def num(y m d:Int):Int:=first+ah y+cum y m+d-1
def ok(y m d:Int):Bool:=decide (1<=y/\y<=9999/\1<=m/\m<=12/\1<=d/\d<=dim y m)
theorem c4Z(y:Int):0<=lp y/\lp y<=1:=by unfold lp;split <;> omega
theorem c6W(y:Int):lp y=1/\y % 4=0/\(y % 100≠0\/y % 400=0)\/lp y=0/\¬ (y % 4=0/\(y % 100≠0\/y % 400=0)):=by
 unfold lp
 cases h:c2U y
 ·right;refine⟨by simp,?_⟩;simp only[c2U,Bool.and_eq_false_iff,Bool.or_eq_false_iff,beq_eq_false_iff_ne,bne_eq_false_iff_eq] at h;omega
 ·left;refine⟨by simp,?_⟩;simp only[c2U,Bool.and_eq_true,Bool.or_eq_true,beq_iff_eq,bne_iff_ne] at h;exact h
theorem b5I(y:Int)(_h:1<=y):ah (y+1)=ah y+365+lp y:=by
 rcases c6W y with ⟨e,h1⟩|⟨e,h1⟩ <;> rw[e] <;> unfold ah <;> omega
theorem a9T(a b:Int)(_h0:1<=a)(_h:a<=b):ah a<=ah b:=by unfold ah;omega
theorem g3J:ah 1=0:=by decide
theorem b7t:ah 10000=3652059:=by decide
theorem b7s(g:Int)(_h:0<=g):ah (g*400 / 146097+1)<=g:=by unfold ah;omega
theorem c5D(y:Int)(_h1:1<=y)(_h2:y<=10000):0<=ah y/\ah y<=3652059:=by unfold ah;omega
theorem c5Q(m:Int):28<=tab m/\tab m<=31:=by unfold tab;(repeat' split) <;> omega
theorem b3I(y m:Int):28<=dim y m/\dim y m<=31:=by
 have:=c4Z y;have:=c5Q m;unfold dim;split <;> omega
theorem c3Z(m:Int)(h1:1<=m)(h2:m<=12):m=1\/m=2\/m=3\/m=4\/m=5\/m=6\/m=7\/m=8\/m=9\/m=10\/m=11\/m=12:=by omega
theorem a9K(y:Int):cum y 1=0:=by simp[cum]
theorem a5M(y m:Int)(h1:1<=m)(h2:m<=12):cum y (m+1)=cum y m+dim y m:=by
 rcases c3Z m h1 h2 with h|h|h|h|h|h|h|h|h|h|h|h <;> subst h <;> simp[cum,dim,tab] <;> omega
theorem b5q(y:Int):cum y 13=365+lp y:=by simp[cum];omega
theorem c1p(y a:Int)(k:Nat)(h1:1<=a)(h2:a+k<=13):cum y a<=cum y (a+k):=by
 induction k with
 |zero=>simp
 |succ k ih =>
  have c:=a5M y (a+k) (by omega) (by omega);have d:=b3I y (a+k);have i:=ih (by omega);rw[show a+((k+1:Nat):Int)=a+k+1 from by omega,c];omega
theorem b7m(y m:Int)(h1:1<=m)(h2:m<=13):0<=cum y m/\cum y m<=365+lp y:=by
 have a:=c1p y 1 (m-1).toNat (by omega) (by omega);have b:=c1p y m (13-m).toNat h1 (by omega);rw[show (1:Int)+((m-1).toNat:Int)=m from by omega,a9K] at a;rw[show m+((13-m).toNat:Int)=13 from by omega,b5q] at b;exact⟨a,b⟩
theorem b2i(y a b:Int)(h1:1<=a)(h:a<b)(h2:b<=13):cum y a+dim y a<=cum y b:=by
 rw[<- a5M y a h1 (by omega)];have c:=c1p y (a+1) (b-(a+1)).toNat (by omega) (by omega)
 rwa [show (a+1)+((b-(a+1)).toNat:Int)=b from by omega] at c
theorem a2K(y m d:Int):ok y m d=true↔1<=y/\y<=9999/\1<=m/\m<=12/\1<=d/\d<=dim y m:=by simp[ok]
theorem a9p(y m d:Int)(h:ok y m d=true):ah y<=num y m d-first/\num y m d-first<ah (y+1):=by
 obtain⟨h1,h2,h3,h4,h5,h6⟩:=(a2K y m d).1 h;have a:=b5I y h1;have b:=b7m y m h3 (by omega);have c:=a5M y m h3 h4;have e:=b7m y (m+1) (by omega) (by omega);unfold num;omega
theorem c1Q(a b n:Int)(ha:1<=a)(hb:1<=b)(h1:ah a<=n)(h2:n<ah (a+1))(h3:ah b<=n)(h4:n<ah (b+1)):a=b:=by
 by_cases h:a<b
 ·have:=a9T (a+1) b (by omega) (by omega);omega
 ·by_cases h':b<a
  ·have:=a9T (b+1) a (by omega) (by omega);omega
  ·omega
theorem c0n(y a b n:Int)(ha:1<=a)(ha':a<=12)(hb:1<=b)(hb':b<=12)(h1:cum y a<=n)(h2:n<cum y a+dim y a)(h3:cum y b<=n)(h4:n<cum y b+dim y b):a=b:=by
 by_cases h:a<b
 ·have:=b2i y a b ha h (by omega);omega
 ·by_cases h':b<a
  ·have:=b2i y b a hb h' (by omega);omega
  ·omega
theorem one(y m d y' m' d':Int)(h:ok y m d=true)(h':ok y' m' d'=true)(e:num y m d=num y' m' d'):y=y'/\m=m'/\d=d':=by
 have i:=a9p y m d h;have i':=a9p y' m' d' h';obtain⟨h1,h2,h3,h4,h5,h6⟩:=(a2K y m d).1 h;obtain⟨g1,g2,g3,g4,g5,g6⟩:=(a2K y' m' d').1 h';have hy:y=y':=c1Q y y' (num y m d-first) h1 g1 i.1 i.2 (by rw[e];exact i'.1) (by rw[e];exact i'.2);subst hy;unfold num at e;have hm:m=m':=c0n y m m' (cum y m+d-1) h3 h4 g3 g4 (by omega) (by omega) (by omega) (by omega);subst hm;exact⟨rfl,rfl,by omega⟩
theorem c3X(y m d:Int)(h:ok y m d=true):first<=num y m d/\num y m d<=last:=by
 obtain⟨h1,h2,h3,h4,h5,h6⟩:=(a2K y m d).1 h;have i:=a9p y m d h;have a:=a9T (y+1) 10000 (by omega) (by omega);have b:=c5D y h1 (by omega);have c:=b7t;unfold first at i;unfold first last;omega
end Go.Proofs.YtfigmlfdnickmaaGreatDoor.Cal
namespace Go.Proofs.YtfigmlfdnickmaaGreatDoor.Cal
def yF(g:Int):Int:=if ah (g*400 / 146097+2)<=g then g*400 / 146097+2 else g*400 / 146097+1
def mF(y r:Int):Int:=if r<cum y 2 then 1 else if r<cum y 3 then 2 else if r<cum y 4 then 3 else if r<cum y 5 then 4 else if r<cum y 6 then 5 else if r<cum y 7 then 6 else if r<cum y 8 then 7 else if r<cum y 9 then 8 else if r<cum y 10 then 9 else if r<cum y 11 then 10 else if r<cum y 12 then 11 else 12
theorem c5C(g:Int)(_h:0<=g):g<ah (g*400 / 146097+3):=by unfold ah;omega
theorem c6R(g:Int)(h:0<=g):1<=yF g/\ah (yF g)<=g/\g<ah (yF g+1):=by
 have a:=b7s g h;have b:=c5C g h;unfold yF
 split
 ·refine⟨by omega,by assumption,?_⟩;rw[show g*400 / 146097+2+1=g*400 / 146097+3 from by omega];exact b
 ·refine⟨by omega,a,?_⟩;rw[show g*400 / 146097+1+1=g*400 / 146097+2 from by omega];omega
theorem c6V(y r:Int)(h0:0<=r)(h1:r<cum y 13):1<=mF y r/\mF y r<=12/\cum y (mF y r)<=r/\r<cum y (mF y r+1):=by
 have c1:=a9K y;unfold mF
 by_cases e2:r<cum y 2
 ·rw[if_pos e2];exact⟨by omega,by omega,by omega,e2⟩
 rw[if_neg e2]
 by_cases e3:r<cum y 3
 ·rw[if_pos e3];exact⟨by omega,by omega,by omega,e3⟩
 rw[if_neg e3]
 by_cases e4:r<cum y 4
 ·rw[if_pos e4];exact⟨by omega,by omega,by omega,e4⟩
 rw[if_neg e4]
 by_cases e5:r<cum y 5
 ·rw[if_pos e5];exact⟨by omega,by omega,by omega,e5⟩
 rw[if_neg e5]
 by_cases e6:r<cum y 6
 ·rw[if_pos e6];exact⟨by omega,by omega,by omega,e6⟩
 rw[if_neg e6]
 by_cases e7:r<cum y 7
 ·rw[if_pos e7];exact⟨by omega,by omega,by omega,e7⟩
 rw[if_neg e7]
 by_cases e8:r<cum y 8
 ·rw[if_pos e8];exact⟨by omega,by omega,by omega,e8⟩
 rw[if_neg e8]
 by_cases e9:r<cum y 9
 ·rw[if_pos e9];exact⟨by omega,by omega,by omega,e9⟩
 rw[if_neg e9]
 by_cases e10:r<cum y 10
 ·rw[if_pos e10];exact⟨by omega,by omega,by omega,e10⟩
 rw[if_neg e10]
 by_cases e11:r<cum y 11
 ·rw[if_pos e11];exact⟨by omega,by omega,by omega,e11⟩
 rw[if_neg e11]
 by_cases e12:r<cum y 12
 ·rw[if_pos e12];exact⟨by omega,by omega,by omega,e12⟩
 rw[if_neg e12];exact⟨by omega,by omega,by omega,h1⟩
def yT(n:Int):Int:=yF (n+738885)
def mT(n:Int):Int:=mF (yT n) (n+738885-ah (yT n))
def dT(n:Int):Int:=n+738885-ah (yT n)-cum (yT n) (mT n)+1
theorem c6G(n:Int)(h1:-738885<=n)(h2:n<=2913173):ok (yT n) (mT n) (dT n)=true/\num (yT n) (mT n) (dT n)=n:=by
 have ⟨a1,a2,a3⟩:=c6R (n+738885) (by omega);have s:=b5I (yF (n+738885)) a1
 have hy:yF (n+738885)<=9999:=by
  by_cases h:yF (n+738885)<=9999
  ·exact h
  ·have:=a9T 10000 (yF (n+738885)) (by omega) (by omega);have:=b7t;omega
 have ce:=b5q (yF (n+738885));have ⟨b1,b2,b3,b4⟩:=c6V (yF (n+738885)) (n+738885-ah (yF (n+738885))) (by omega) (by omega);have cs:=a5M (yF (n+738885)) (mF (yF (n+738885)) (n+738885-ah (yF (n+738885)))) b1 b2;refine⟨(a2K _ _ _).2 ?_,?_⟩
 ·unfold dT mT yT;refine⟨a1,hy,b1,b2,by omega,by omega⟩
 ·unfold num dT mT yT first;omega
theorem c4g(y m d n:Int)(h:ok y m d=true)(e:num y m d=n):y=yT n/\m=mT n/\d=dT n:=by
 have b:=c3X y m d h;rw[e] at b;unfold first last at b;have ⟨h1,h2⟩:=c6G n b.1 b.2;exact one y m d _ _ _ h h1 (by rw[e,h2])
end Go.Proofs.YtfigmlfdnickmaaGreatDoor.Cal
namespace Go.Proofs.YtfigmlfdnickmaaGreatDoor.Txt
def dig(c:UInt8):Bool:=decide (48<=(c.toNat:Int)/\(c.toNat:Int)<=57)
def a6j(l:List UInt8):Bool:=l.all dig
def b4R(l:List UInt8):Int:=l.foldl (fun n c=>n*10+((c.toNat:Int)-48)) 0
def low(c:UInt8):Bool:=decide (97<=(c.toNat:Int)/\(c.toNat:Int)<=122)
def c1M(l:List UInt8):Bool:=l.all low
def isNum(l:List UInt8):Bool:=decide (1<=l.length/\l.length<=7) && a6j l
def a1j(l:List UInt8):Bool:=decide (1<=l.length/\l.length<=8) && c1M l
theorem a6k(c:UInt8):dig c=true↔48<=(c.toNat:Int)/\(c.toNat:Int)<=57:=by simp[dig]
theorem c0s(c:UInt8):low c=true↔97<=(c.toNat:Int)/\(c.toNat:Int)<=122:=by simp[low]
theorem a6X(l:List UInt8)(c:UInt8):a6j (l++[c])=(a6j l && dig c):=by simp[a6j]
theorem b3c(l:List UInt8)(c:UInt8):c1M (l++[c])=(c1M l && low c):=by simp[c1M]
theorem b2Y(l:List UInt8)(c:UInt8):b4R (l++[c])=b4R l*10+((c.toNat:Int)-48):=by simp[b4R]
theorem a8N(s:ByteArray)(k:Nat)(h:k<s.size):s.data.toList.take (k+1)=s.data.toList.take k++[s[k]]:=by
 rw[List.take_succ_eq_append_getElem (by simpa using h)];rfl
theorem a5t(s:ByteArray)(k:Nat)(h:s.size<=k):s.data.toList.take k=s.data.toList:=List.take_of_length_le (by simpa using h)
theorem a1d(s:ByteArray):s.data.toList.length=s.size:=by simp
theorem a8h(l:List UInt8)(k:Nat)(h:a6j (l.take k)=false):a6j l=false:=by
 unfold a6j at *;rw[List.all_eq_false] at *;obtain⟨x,hx,h⟩:=h;exact⟨x,List.mem_of_mem_take hx,h⟩
theorem b3d(l:List UInt8)(k:Nat)(h:c1M (l.take k)=false):c1M l=false:=by
 unfold c1M at *;rw[List.all_eq_false] at *;obtain⟨x,hx,h⟩:=h;exact⟨x,List.mem_of_mem_take hx,h⟩
theorem c5i(l:List UInt8):∀ (k:Nat)(n:Int),0<=n->n<10 ^ k->a6j l=true->0<=l.foldl (fun n c=>n*10+((c.toNat:Int)-48)) n/\l.foldl (fun n c=>n*10+((c.toNat:Int)-48)) n<10 ^ (k+l.length):=by
 induction l with
 |nil=>intro k n h0 h1 _;exact⟨h0,h1⟩
 |cons c l ih =>
  intro k n h0 h1 hd;simp only[a6j,List.all_cons,Bool.and_eq_true] at hd;have hc:=(a6k c).1 hd.1;have:=ih (k+1) (n*10+((c.toNat:Int)-48)) (by omega) (by rw[Int.pow_succ];omega) hd.2;simp only[List.foldl_cons,List.length_cons];rw[show k+(l.length+1)=k+1+l.length from by omega];exact this
theorem c0i(l:List UInt8)(h:a6j l=true)(hl:l.length<=7):0<=b4R l/\b4R l<=9999999:=by
 have b:=c5i l 0 0 (by omega) (by decide) h;have q:∀ k:Nat,k<8->(10:Int) ^ k<=10000000:=by decide
 have p:=q (0+l.length) (by omega);unfold b4R;omega
theorem b0J(h1:1<=l.length)(h2:l.length<=7)(h3:a6j l=true):isNum l=true:=by
 simp[isNum,h1,h2,h3]
theorem b3o(h:¬ (1<=l.length/\l.length<=7)):isNum l=false:=by
 unfold isNum;rw[decide_eq_false h];rfl
theorem b3q(h:a6j l=false):isNum l=false:=by simp[isNum,h]
theorem b3p(l:List UInt8):isNum l=true↔(1<=l.length/\l.length<=7)/\a6j l=true:=by simp[isNum]
theorem b5b(h1:1<=l.length)(h2:l.length<=8)(h3:c1M l=true):a1j l=true:=by
 simp[a1j,h1,h2,h3]
theorem b0K(h:¬ (1<=l.length/\l.length<=8)):a1j l=false:=by
 unfold a1j;rw[decide_eq_false h];rfl
theorem b8r(h:c1M l=false):a1j l=false:=by simp[a1j,h]
def a2f(l:List UInt8):Int:=if isNum l then b4R l else 0
theorem a2B(l:List UInt8):0<=a2f l/\a2f l<=9999999:=by
 unfold a2f
 split
 ·rename_i h
  have:=(b3p l).1 h;exact c0i l this.2 this.1.2
 ·omega
end Go.Proofs.YtfigmlfdnickmaaGreatDoor.Txt
namespace Go.Proofs.YtfigmlfdnickmaaGreatDoor.Txt
def a0V(s:ByteArray)(i:Nat):Int:=((s.data.toList.getD i 0).toNat:Int)
theorem a2W(s:ByteArray)(i:Nat)(h:i<s.size):a0V s i=(s[i].toNat:Int):=by
 unfold a0V;rw[List.getD_eq_getElem?_getD,List.getElem?_eq_getElem (by simpa using h)];rfl
def part(s:ByteArray)(a b:Nat):List UInt8:=(s.extract a b).data.toList
def a3a(s:ByteArray):Bool:=decide (s.size=5/\a0V s 2=58/\isNum (part s 0 2)=true/\isNum (part s 3 5)=true/\a2f (part s 0 2)<=23/\a2f (part s 3 5)<=59)
def a6J(s:ByteArray):Int:=if a3a s then a2f (part s 0 2)*60+a2f (part s 3 5) else 0
def a5j(s:ByteArray):Bool:=decide (s.size=10/\a0V s 4=45/\a0V s 7=45/\isNum (part s 0 4)=true/\isNum (part s 5 7)=true/\isNum (part s 8 10)=true/\Cal.ok (a2f (part s 0 4)) (a2f (part s 5 7)) (a2f (part s 8 10))=true)
def a2o(s:ByteArray):Int:=if a5j s then Cal.num (a2f (part s 0 4)) (a2f (part s 5 7)) (a2f (part s 8 10)) else 0
def a2y(s:ByteArray):Bool:=decide (a5j s=true/\0<=a2o s/\a2o s<728)
theorem a5D(h:¬ (s.size=5/\a0V s 2=58/\isNum (part s 0 2)=true/\isNum (part s 3 5)=true/\a2f (part s 0 2)<=23/\a2f (part s 3 5)<=59)):a3a s=false:=decide_eq_false h
theorem a6l(h:¬ (s.size=10/\a0V s 4=45/\a0V s 7=45/\isNum (part s 0 4)=true/\isNum (part s 5 7)=true/\isNum (part s 8 10)=true/\Cal.ok (a2f (part s 0 4)) (a2f (part s 5 7)) (a2f (part s 8 10))=true)):a5j s=false:=decide_eq_false h
theorem b6G(hs:s.size=5)(hb:a0V s 2=58):a3a s=(isNum (part s 0 2) && isNum (part s 3 5) && decide (a2f (part s 0 2)<=23) && decide (a2f (part s 3 5)<=59)):=by
 rw[Bool.eq_iff_iff];simp[a3a,hs,hb,and_assoc]
theorem c1h(hs:s.size=10)(hb:a0V s 4=45)(hc:a0V s 7=45):a5j s=(isNum (part s 0 4) && isNum (part s 5 7) && isNum (part s 8 10) && Cal.ok (a2f (part s 0 4)) (a2f (part s 5 7)) (a2f (part s 8 10))):=by
 rw[Bool.eq_iff_iff];simp[a5j,hs,hb,hc,and_assoc]
theorem c4W(s:ByteArray):0<=a6J s/\a6J s<=1439:=by
 unfold a6J
 split
 ·rename_i h
  have h:=of_decide_eq_true h;have:=a2B (part s 0 2);have:=a2B (part s 3 5);omega
 ·omega
theorem c3w(s:ByteArray):-738885<=a2o s/\a2o s<=2913173:=by
 unfold a2o
 split
 ·rename_i h
  have h:=of_decide_eq_true h;have b:=Cal.c3X _ _ _ h.2.2.2.2.2.2;unfold Cal.first Cal.last at b;exact b
 ·omega
end Go.Proofs.YtfigmlfdnickmaaGreatDoor.Txt
namespace Go.Proofs.YtfigmlfdnickmaaGreatDoor.Txt
open Go
def dmB(s:ByteArray):Bool:=decide (s.size=16/\a0V s 10=47/\a5j (s.extract 0 10)=true/\a3a (s.extract 11 16)=true)
def dmV(s:ByteArray):Int:=if dmB s then a2o (s.extract 0 10)*1440+a6J (s.extract 11 16) else 0
def b1a(s:ByteArray):ByteArray:={ data:=(Lib.cut s.data.toList [47]).fst.toArray }
def b0Z(s:ByteArray):ByteArray:={ data:=(Lib.cut s.data.toList [47]).snd.fst.toArray }
def c1N(s:ByteArray):Bool:=(Lib.cut s.data.toList [47]).snd.snd
theorem a3g(s:ByteArray)(a b:Nat):(s.extract a b).data.toList=(s.data.toList.take b).drop a:=by
 rw[ByteArray.data_extract,Array.toList_extract];simp[List.drop_take]
theorem a7x{t:ByteArray}(h:s.data.toList=t.data.toList):s=t:=by
 cases s;cases t;simp only at h;congr;exact Array.toList_inj.1 h
theorem c6F(c:UInt8)(h:dig c=true):c≠47:=by
 intro e;subst e;revert h;decide
theorem b2h(h:a6j l=true){c:UInt8}(hc:c∈l):c≠47:=c6F c (by
 unfold a6j at h;rw[List.all_eq_true] at h;exact h c hc)
theorem a7C(h:isNum l=true):a6j l=true:=((b3p l).1 h).2
theorem b3N(t:ByteArray)(h:a5j t=true):∀ j,j<10->t.data.toList[j]?≠some 47:=by
 have h:=of_decide_eq_true h;obtain⟨hs,b4,b7,n1,n2,n3,_⟩:=h;have d1:=a7C n1;have d2:=a7C n2;have d3:=a7C n3;unfold part at d1 d2 d3;rw[a3g] at d1 d2 d3;have hl:t.data.toList.length=10:=by rw[a1d];exact hs
 intro j hj he;have hjl:j<t.data.toList.length:=by omega
 have e:t.data.toList[j]=47:=by
  rw[List.getElem?_eq_getElem hjl] at he;exact Option.some.inj he
 have m1:j<4->False:=fun h4=>b2h d1 (c:=t.data.toList[j]) (by
  rw[List.mem_iff_getElem?];exact⟨j,by rw[List.getElem?_drop,List.getElem?_take];simp[h4]⟩) e
 have m2:5<=j->j<7->False:=fun h5 h7=>b2h d2 (c:=t.data.toList[j]) (by
  rw[List.mem_iff_getElem?];exact⟨j-5,by rw[List.getElem?_drop,List.getElem?_take];simp[show 5+(j-5)=j from by omega,h7]⟩) e
 have m3:8<=j->False:=fun h8=>b2h d3 (c:=t.data.toList[j]) (by
  rw[List.mem_iff_getElem?];exact⟨j-8,by rw[List.getElem?_drop,List.getElem?_take];simp[show 8+(j-8)=j from by omega,hj]⟩) e
 have g:∀ k:Nat,j=k->a0V t k=47:=fun k hk=>by
  subst hk;unfold a0V;rw[List.getD_eq_getElem?_getD,List.getElem?_eq_getElem hjl,e];rfl
 by_cases c4:j=4
 ·have:=g 4 c4;omega
 ·by_cases c7:j=7
  ·have:=g 7 c7;omega
  ·by_cases c1:j<4
   ·exact m1 c1
   ·by_cases c2:j<7
    ·exact m2 (by omega) c2
    ·exact m3 (by omega)
theorem b4P(l:List UInt8)(i:Nat):Lib.occAt l [47] i=true↔l[i]?=some 47:=by
 unfold Lib.occAt;rw[<- List.head?_drop]
 cases l.drop i with
 |nil=>simp[List.isPrefixOf]
 |cons b r=>simp[List.isPrefixOf];exact eq_comm
theorem c1m(hs:s.size=16)(hb:a0V s 10=47)(hd:a5j (s.extract 0 10)=true):b1a s=s.extract 0 10/\b0Z s=s.extract 11 16/\c1N s=true:=by
 have hl:s.data.toList.length=16:=by rw[a1d];exact hs
 have h10:s.data.toList[10]?=some 47:=by
  unfold a0V at hb;rw[List.getD_eq_getElem?_getD,List.getElem?_eq_getElem (by omega)] at hb;rw[List.getElem?_eq_getElem (by omega)];have:(s.data.toList[10]'(by omega)).toNat=47:=by simpa using (by exact_mod_cast hb:_)
  rw[show s.data.toList[10]'(by omega)=47 from UInt8.toNat_inj.1 (by simpa using this)]
 have hi:Lib.index s.data.toList [47]=10:=Lib.index_first (i:=10) (by omega) ((b4P _ _).2 h10) (fun j hj=>by
  cases ho:Lib.occAt s.data.toList [47] j with
  |false=>rfl
  |true =>
   have:=b3N _ hd j hj;rw[a3g,List.drop_zero,List.getElem?_take,if_pos hj] at this
   exact absurd ((b4P _ _).1 ho) this)
 have hc:Lib.cut s.data.toList [47]=(s.data.toList.take 10,s.data.toList.drop 11,true):=by
  unfold Lib.cut;rw[hi];rfl
 refine⟨a7x ?_,a7x ?_,?_⟩
 ·simp only[b1a,hc,a3g];simp
 ·simp only[b0Z,hc,a3g];rw[List.take_of_length_le (by omega)]
 ·simp[c1N,hc]
theorem c6H(s:ByteArray):(c1N s && a5j (b1a s) && a3a (b0Z s))=dmB s/\(dmB s=true->a2o (b1a s)*1440+a6J (b0Z s)=dmV s):=by
 have key:(c1N s && a5j (b1a s) && a3a (b0Z s))=dmB s:=by
  rw[Bool.eq_iff_iff];constructor
  ·intro h;simp only[Bool.and_eq_true] at h;obtain⟨⟨hf,hd⟩,hm⟩:=h;have s1:(b1a s).size=10:=(of_decide_eq_true hd).1;have s2:(b0Z s).size=5:=(of_decide_eq_true hm).1
   have hi:0<=Lib.index s.data.toList [47]:=by
    by_cases hi:0<=Lib.index s.data.toList [47]
    ·exact hi
    ·simp[c1N,Lib.cut,hi] at hf
   obtain⟨i,hi'⟩:=Int.eq_ofNat_of_zero_le hi;have hr:=Lib.index_room s.data.toList [47] hi
   have hc:Lib.cut s.data.toList [47]=(s.data.toList.take i,s.data.toList.drop (i+1),true):=by
    unfold Lib.cut;rw[if_pos hi,hi'];simp
   have hocc:s.data.toList[i]?=some 47:=by
    rcases Lib.index_spec s.data.toList [47] with ⟨h,_⟩|⟨j,hj,_,ho,_⟩
    ·omega
    ·rw[hi'] at hj;have:i=j:=by omega
     subst this;exact (b4P _ _).1 ho
   rw[hi'] at hr;simp only[List.length_singleton,a1d] at hr
   have e1:min i s.size=10:=by
    rw[<- a1d] at s1;simp only[b1a,hc] at s1;simpa using s1
   have e2:s.size-(i+1)=5:=by
    rw[<- a1d] at s2;simp only[b0Z,hc] at s2;simpa using s2
   have i10:i=10:=by omega
   have hs:s.size=16:=by omega
   subst i10;have a1:b1a s=s.extract 0 10:=a7x (by simp only[b1a,hc,a3g];simp);have a2:b0Z s=s.extract 11 16:=a7x (by simp only[b0Z,hc,a3g];rw[List.take_of_length_le (by rw[a1d];omega)]);rw[a1] at hd;rw[a2] at hm
   have hb:a0V s 10=47:=by
    unfold a0V;rw[List.getD_eq_getElem?_getD,hocc];rfl
   exact decide_eq_true ⟨hs,hb,hd,hm⟩
  ·intro h;obtain⟨hs,hb,hd,hm⟩:=of_decide_eq_true h;obtain⟨a1,a2,a3⟩:=c1m hs hb hd;rw[a1,a2,a3,hd,hm];rfl
 refine⟨key,fun h=>?_⟩;obtain⟨hs,hb,hd,_⟩:=of_decide_eq_true h;obtain⟨a1,a2,_⟩:=c1m hs hb hd;rw[a1,a2];simp[dmV,h]
end Go.Proofs.YtfigmlfdnickmaaGreatDoor.Txt
namespace Go.Proofs.YtfigmlfdnickmaaGreatDoor.Txt
open Go
def a3H(b:Bool)(pos:Nat)(x:List (Nat × Nat) × Option Nat):List (Nat × Nat) × Option Nat :=
 if b then (match x.2 with|some a=>(x.1++[(a,pos)],none)|none=>(x.1,none)) else (x.1,some (x.2.getD pos))
def spK(s:ByteArray):Nat->List (Nat × Nat) × Option Nat
 |0=>([],none)
 |k+1=>a3H (decide (a0V s k=32)) k (spK s k)
def a1v(s:ByteArray):List ByteArray:=(Lib.closeSpans s (spK s s.size)).map fun x=>s.extract x.1 x.2
theorem b0R(s:ByteArray)(i:Nat)(h:i<s.size):(s.get! i).toNat=(a0V s i).toNat:=by
 unfold a0V;rw[List.getD_eq_getElem?_getD,List.getElem?_eq_getElem (by simpa using h)];simp only[Option.getD_some,Int.toNat_natCast]
 congr 1
 cases s with
 |mk a=>simp only[ByteArray.get!];rw[getElem!_pos a i h];simp
theorem b3J(s:ByteArray)(i:Nat)(h:i<s.size):
  ((s.get! i).toNat<128/\Utf8.decode s i=((s.get! i).toNat,1)) \/
  (128<=(Utf8.decode s i).1/\1<=(Utf8.decode s i).2/\∀ j,j<(Utf8.decode s i).2->128<=(s.get! (i+j)).toNat/\i+j<s.size):=by
 unfold Utf8.decode;simp only[Nat.add_zero]
 by_cases h0:(s.get! i).toNat<128
 ·left;exact⟨h0,by rw[if_pos (by omega)]⟩
 ·right;rw[if_neg (by omega)]
  have one:∀ j,j<1->128<=(s.get! (i+j)).toNat/\i+j<s.size:=fun j hj=>by
   obtain rfl:j=0:=by omega
   exact⟨by simpa using h0,by omega⟩
  split
  ·rename_i hc
   simp only[Bool.and_eq_true,decide_eq_true_eq,beq_iff_eq] at hc
   split
   ·refine⟨by simp only;omega,by simp,fun j hj=>?_⟩;simp only at hj;rcases (show j=0\/j=1 by omega) with rfl|rfl
    ·exact one 0 (by omega)
    ·exact⟨by omega,by omega⟩
   ·exact⟨by simp[Utf8.runeError],by simp,one⟩
  ·split
   ·rename_i hc
    simp only[Bool.and_eq_true,decide_eq_true_eq,beq_iff_eq] at hc
    split
    ·rename_i hv
     simp only[Bool.and_eq_true,decide_eq_true_eq] at hv;refine⟨by simp only;omega,by simp,fun j hj=>?_⟩;simp only at hj;rcases (show j=0\/j=1\/j=2 by omega) with rfl|rfl|rfl
     ·exact one 0 (by omega)
     ·exact⟨by omega,by omega⟩
     ·exact⟨by omega,by omega⟩
    ·exact⟨by simp[Utf8.runeError],by simp,one⟩
   ·split
    ·rename_i hc
     simp only[Bool.and_eq_true,decide_eq_true_eq,beq_iff_eq] at hc
     split
     ·rename_i hv
      simp only[Bool.and_eq_true,decide_eq_true_eq] at hv;refine⟨by simp only;omega,by simp,fun j hj=>?_⟩;simp only at hj;rcases (show j=0\/j=1\/j=2\/j=3 by omega) with rfl|rfl|rfl|rfl
      ·exact one 0 (by omega)
      ·exact⟨by omega,by omega⟩
      ·exact⟨by omega,by omega⟩
      ·exact⟨by omega,by omega⟩
     ·exact⟨by simp[Utf8.runeError],by simp,one⟩
    ·exact⟨by simp[Utf8.runeError],by simp,one⟩
theorem c4C(s:ByteArray)(pos:Nat):∀ n:Nat,(∀ j,j<n+1->a0V s (pos+j)≠32)->spK s (pos+(n+1))=((spK s pos).1,some ((spK s pos).2.getD pos)):=by
 intro n
 induction n with
 |zero =>
  intro h;have:=h 0 (by omega);simp only[Nat.add_zero] at this;show a3H _ pos (spK s pos)=_;rw[decide_eq_false this];rfl
 |succ n ih =>
  intro h;have i:=ih (fun j hj=>h j (by omega));have:=h (n+1) (by omega);show a3H (decide (a0V s (pos+(n+1))=32)) (pos+(n+1)) (spK s (pos+(n+1)))=_;rw[decide_eq_false this,i];rfl
theorem c2l(s:ByteArray):∀ (f pos:Nat),pos<=s.size->s.size-pos<=f->Lib.spansFromP (fun r=>r==32) s f pos (spK s pos).2 (spK s pos).1=spK s s.size:=by
 intro f
 induction f with
 |zero =>
  intro pos h1 h2;obtain rfl:pos=s.size:=by omega
  rfl
 |succ f ih =>
  intro pos h1 h2
  by_cases hlt:pos<s.size
  ·unfold Lib.spansFromP;rw[if_pos hlt];rcases b3J s pos hlt with ⟨hb,hd⟩|⟨hr,hw,hj⟩
   ·rw[hd];simp only;have gb:=b0R s pos hlt;have nb:0<=a0V s pos:=by unfold a0V;omega
    have i:=ih (pos+1) (by omega) (by omega);have st:spK s (pos+1)=a3H (decide (a0V s pos=32)) pos (spK s pos):=rfl
    by_cases h32:a0V s pos=32
    ·have e:((s.get! pos).toNat==32)=true:=by rw[beq_iff_eq];omega
     rw[e,if_pos rfl];rw[decide_eq_true h32] at st
     cases hs:(spK s pos).2 with
     |none=>simp only;rw[st] at i;simp only[a3H,hs,if_true] at i;exact i
     |some a=>simp only;rw[st] at i;simp only[a3H,hs,if_true] at i;exact i
    ·have e:((s.get! pos).toNat==32)=false:=by rw[beq_eq_false_iff_ne];omega
     rw[e,if_neg (by decide)];rw[decide_eq_false h32] at st
     cases hs:(spK s pos).2 with
     |none=>simp only;rw[st] at i;simp only[a3H,hs,Bool.false_eq_true,if_false,Option.getD_none] at i;exact i
     |some a=>simp only;rw[st] at i;simp only[a3H,hs,Bool.false_eq_true,if_false,Option.getD_some] at i;exact i
   ·have e:((Utf8.decode s pos).1==32)=false:=by rw[beq_eq_false_iff_ne];omega
    rw[e,if_neg (by decide)];obtain⟨n,hn⟩:∃ n,(Utf8.decode s pos).2=n+1:=⟨(Utf8.decode s pos).2-1,by omega⟩;have lastj:=hj ((Utf8.decode s pos).2-1) (by omega)
    have st:=c4C s pos n (fun j hjn=>by
     have q:=hj j (by omega);have gb:=b0R s (pos+j) q.2;have nb:0<=a0V s (pos+j):=by unfold a0V;omega
     omega)
    have i:=ih (pos+(n+1)) (by omega) (by omega);rw[st] at i;rw[hn]
    cases hs:(spK s pos).2 with
    |none=>simp only;simp only[hs,Option.getD_none] at i;exact i
    |some a=>simp only;simp only[hs,Option.getD_some] at i;exact i
  ·obtain rfl:pos=s.size:=by omega
   unfold Lib.spansFromP;rw[if_neg hlt]
theorem b3C(s:ByteArray):Lib.goFieldsP (fun r=>r==32) s=a1v s:=by
 unfold Lib.goFieldsP Lib.spansOfP a1v;have:=c2l s s.size 0 (zN _) (by omega);rw[show (spK s 0).2=none from rfl,show (spK s 0).1=[] from rfl] at this;rw[this]
end Go.Proofs.YtfigmlfdnickmaaGreatDoor.Txt
namespace Go.Proofs.YtfigmlfdnickmaaGreatDoor.Txt
open Go
def a8z(s:ByteArray)(k:Nat):ByteArray:=match (spK s k).2 with|none=>⟨#[]⟩|some a=>s.extract a k
def b7w(s:ByteArray)(k:Nat):List ByteArray:=(spK s k).1.map fun x=>s.extract x.1 x.2
theorem b5U(s:ByteArray):∀ (k a:Nat),(spK s k).2=some a->a<k
 |0,a,h=>by simp[spK] at h
 |k+1,a,h=>by
  simp only[spK,a3H] at h
  split at h
  ·split at h <;> simp at h
  ·simp only[Option.some.injEq] at h
   cases hs:(spK s k).2 with
   |none=>rw[hs] at h;simp at h;omega
   |some b=>rw[hs] at h;simp at h;have:=b5U s k b hs;omega
theorem a1X(a b:ByteArray):(a++b).data.toList=a.data.toList++b.data.toList:=by
 rw[ByteArray.data_append,Array.toList_append]
theorem c5l(s:ByteArray)(a k:Nat)(h:a<=k):s.extract a k++s.extract k (k+1)=s.extract a (k+1):=by
 apply a7x;rw[a1X,a3g,a3g,a3g]
 have h1:(s.data.toList.take k).drop a=((s.data.toList.take (k+1)).drop a).take (k-a):=by
  rw[List.drop_take,List.drop_take,List.take_take,show min (k-a) (k+1-a)=k-a from by omega]
 have h2:(s.data.toList.take (k+1)).drop k=((s.data.toList.take (k+1)).drop a).drop (k-a):=by
  rw[List.drop_drop,show a+(k-a)=k from by omega]
 rw[h1,h2,List.take_append_drop]
theorem b7k(s:ByteArray)(k:Nat):(a8z s k).size<=k:=by
 unfold a8z
 split
 ·exact zN _
 ·have:∀ a b,(s.extract a b).size=min b s.size-a:=fun a b=>ByteArray.size_extract ..
  rw[this];omega
theorem c0V(b:ByteArray):(⟨#[]⟩:ByteArray)++b=b:=by
 apply a7x;rw[a1X];rfl
theorem b7l(s:ByteArray)(k:Nat)(h:a0V s k≠32):a8z s k++s.extract k (k+1)=a8z s (k+1)/\b7w s (k+1)=b7w s k:=by
 have e:spK s (k+1)=((spK s k).1,some ((spK s k).2.getD k)):=by simp only[spK,a3H,decide_eq_false h];rfl
 refine⟨?_,by unfold b7w;rw[e]⟩;unfold a8z;rw[e]
 cases hs:(spK s k).2 with
 |none=>simp only[Option.getD_none];exact c0V _
 |some a=>simp only[Option.getD_some];exact c5l s a k (Nat.le_of_lt (b5U s k a hs))
theorem b3O(s:ByteArray)(k:Nat)(hk:k<=s.size)(h:a0V s k=32):a8z s (k+1)=⟨#[]⟩/\b7w s (k+1)=b7w s k++(if (a8z s k).size=0 then [] else [a8z s k]):=by
 have e:spK s (k+1)=a3H true k (spK s k):=by simp only[spK,decide_eq_true h]
 cases hs:(spK s k).2 with
 |none =>
  have e2:spK s (k+1)=((spK s k).1,none):=by rw[e];simp[a3H,hs]
  have c:a8z s k=⟨#[]⟩:=by unfold a8z;rw[hs]
  refine⟨by unfold a8z;rw[e2],?_⟩;rw[c];unfold b7w;rw[e2];simp;rfl
 |some a =>
  have e2:spK s (k+1)=((spK s k).1++[(a,k)],none):=by rw[e];simp[a3H,hs]
  have c:a8z s k=s.extract a k:=by unfold a8z;rw[hs]
  have lt:=b5U s k a hs;have sz:(s.extract a k).size=min k s.size-a:=ByteArray.size_extract ..;refine⟨by unfold a8z;rw[e2],?_⟩;rw[c,if_neg (by omega)];unfold b7w;rw[e2];simp
theorem b2t(s:ByteArray):a1v s=b7w s s.size++(if (a8z s s.size).size=0 then [] else [a8z s s.size]):=by
 unfold a1v b7w a8z Lib.closeSpans
 cases hs:(spK s s.size).2 with
 |none=>simp;rfl
 |some a =>
  have lt:=b5U s _ a hs;have sz:(s.extract a s.size).size=min s.size s.size-a:=ByteArray.size_extract ..;simp only;rw[if_neg (by omega)];simp
theorem b5J(s:ByteArray):∀ k:Nat,(b7w s k).length<=k
 |0=>zq _
 |k+1=>by
  have ih:=b5J s k;unfold b7w at *;rw[List.length_map] at *;simp only[spK,a3H]
  split
  ·split <;> simp <;> omega
  ·simp;omega
end Go.Proofs.YtfigmlfdnickmaaGreatDoor.Txt
namespace Go.Proofs.YtfigmlfdnickmaaGreatDoor.Txt
open Go
def wdL(l:List UInt8):Int :=
 if l==[109,111] then 0 else if l==[116,117] then 1 else if l==[119,101] then 2 else if l==[116,104] then 3 else if l==[102,114] then 4 else if l==[115,97] then 5 else if l==[115,117] then 6 else -1
theorem c3Q(l:List UInt8):-1<=wdL l/\wdL l<=6:=by
 unfold wdL;(repeat' split) <;> omega
theorem b8X(h:0<=wdL l):l=[109,111]\/l=[116,117]\/l=[119,101]\/l=[116,104]\/l=[102,114]\/l=[115,97]\/l=[115,117]:=by
 unfold wdL at h
 by_cases c0:(l==[109,111])=true
 ·exact .inl (beq_iff_eq.1 c0)
 ·rw[if_neg c0] at h
  by_cases c1:(l==[116,117])=true
  ·exact .inr (.inl (beq_iff_eq.1 c1))
  ·rw[if_neg c1] at h
   by_cases c2:(l==[119,101])=true
   ·exact .inr (.inr (.inl (beq_iff_eq.1 c2)))
   ·rw[if_neg c2] at h
    by_cases c3:(l==[116,104])=true
    ·exact .inr (.inr (.inr (.inl (beq_iff_eq.1 c3))))
    ·rw[if_neg c3] at h
     by_cases c4:(l==[102,114])=true
     ·exact .inr (.inr (.inr (.inr (.inl (beq_iff_eq.1 c4)))))
     ·rw[if_neg c4] at h
      by_cases c5:(l==[115,97])=true
      ·exact .inr (.inr (.inr (.inr (.inr (.inl (beq_iff_eq.1 c5))))))
      ·rw[if_neg c5] at h
       by_cases c6:(l==[115,117])=true
       ·exact .inr (.inr (.inr (.inr (.inr (.inr (beq_iff_eq.1 c6))))))
       ·rw[if_neg c6] at h;omega
theorem c4s(h:0<=wdL l):l.length=2/\44 ∉ l:=by
 rcases b8X h with rfl|rfl|rfl|rfl|rfl|rfl|rfl <;> decide
theorem a8E(h:¬ (l.length=2/\44 ∉ l)):wdL l=-1:=by
 have b:=c3Q l
 by_cases g:0<=wdL l
 ·exact absurd (c4s g) h
 ·omega
def a4D(acc:List Int)(d:Int):Option (List Int):=if 0<=d/\acc.contains d=false then some (d :: acc) else none
def onP:List (List UInt8)->List Int->Option (List Int)
 |[],acc=>some acc
 |p :: ps,acc=>(a4D acc (wdL p)).bind (onP ps)
def onC:List UInt8->List Int->Option (List Int)
 |[a,b],acc=>a4D acc (wdL [a,b])
 |a :: b :: c :: r,acc=>if c=44 then (a4D acc (wdL [a,b])).bind (onC r) else none
 |_,_=>none
def sp:List UInt8->List (List UInt8)
 |[]=>[[]]
 |c :: l=>if c=44 then [] :: sp l else (match sp l with| []=>[[c]]|p :: ps=>(c :: p) :: ps)
theorem a6z(acc:List Int):a4D acc (-1)=none:=by simp[a4D]
theorem c6S(l:List UInt8):sp l≠[]:=by
 cases l with
 |nil=>simp[sp]
 |cons c l=>unfold sp;split;simp;split <;> simp
theorem a2U{p:List UInt8}(ps:List (List UInt8))(acc:List Int)(h:¬ (p.length=2/\44 ∉ p)):onP (p :: ps) acc=none:=by
 simp[onP,a8E h,a6z]
theorem f4x:∀ (l:List UInt8)(acc r:List Int),onC l acc=some r->l.length % 3=2
 |[],_,_,h=>by simp[onC] at h
 |[_],_,_,h=>by simp[onC] at h
 |[_,_],_,_,_=>rfl
 |a :: b :: c :: l,acc,r,h=>by
  unfold onC at h
  split at h
  ·simp only[Option.bind_eq_some_iff] at h;obtain⟨x,_,h⟩:=h;have:=f4x l x r h;simp only[List.length_cons];omega
  ·cases h
theorem a7k(c:UInt8)(l:List UInt8)(h:c≠44):∃ p ps,sp l=p :: ps/\sp (c :: l)=(c :: p) :: ps:=by
 cases hs:sp l with
 |nil=>exact absurd hs (c6S l)
 |cons p ps=>exact⟨p,ps,rfl,by simp[sp,h,hs]⟩
theorem a4h(l:List UInt8):sp (44 :: l)=[] :: sp l:=by simp[sp]
theorem b9V:∀ (l:List UInt8)(acc:List Int),onP (sp l) acc=onC l acc
 |[],acc=>by rw[show sp []=[[]] from rfl,a2U _ _ (by simp)];rfl
 |[a],acc=>by
  by_cases ha:a=44
  ·subst ha;rw[a4h,a2U _ _ (by simp)];rfl
  ·obtain⟨p,ps,h1,h2⟩:=a7k a [] ha;simp only[sp,List.cons.injEq] at h1;obtain⟨rfl,rfl⟩:=h1;rw[h2,a2U _ _ (by simp)];rfl
 |[a,b],acc=>by
  by_cases ha:a=44
  ·subst ha;rw[a4h,a2U _ _ (by simp),onC,a8E (by simp),a6z]
  ·obtain⟨p,ps,h1,h2⟩:=a7k a [b] ha;rw[h2]
   by_cases hb:b=44
   ·subst hb;rw[a4h] at h1;simp only[List.cons.injEq] at h1;obtain⟨rfl,rfl⟩:=h1;rw[a2U _ _ (by simp),onC,a8E (by simp),a6z]
   ·obtain⟨p',ps',h1',h2'⟩:=a7k b [] hb;simp only[sp,List.cons.injEq] at h1';obtain⟨rfl,rfl⟩:=h1';rw[h2'] at h1;simp only[List.cons.injEq] at h1;obtain⟨rfl,rfl⟩:=h1;simp only[onP,onC]
    cases a4D acc (wdL [a,b]) <;> rfl
 |a :: b :: c :: l,acc=>by
  have ih:=b9V l
  by_cases ha:a=44
  ·subst ha;rw[a4h,a2U _ _ (by simp),onC,a8E (by simp),a6z]
   split <;> rfl
  ·obtain⟨p,ps,h1,h2⟩:=a7k a (b :: c :: l) ha;rw[h2]
   by_cases hb:b=44
   ·subst hb;rw[a4h] at h1;simp only[List.cons.injEq] at h1;obtain⟨rfl,rfl⟩:=h1;rw[a2U _ _ (by simp),onC,a8E (by simp),a6z]
    split <;> rfl
   ·obtain⟨p',ps',h1',h2'⟩:=a7k b (c :: l) hb;rw[h2'] at h1;simp only[List.cons.injEq] at h1;obtain⟨rfl,rfl⟩:=h1
    by_cases hc:c=44
    ·subst hc;rw[a4h] at h1';simp only[List.cons.injEq] at h1';obtain⟨rfl,rfl⟩:=h1';simp only[onP,onC,if_true]
     cases a4D acc (wdL [a,b]) with
     |none=>rfl
     |some x=>exact ih x
    ·obtain⟨p'',ps'',_,h2''⟩:=a7k c l hc;rw[h2''] at h1';simp only[List.cons.injEq] at h1';obtain⟨rfl,rfl⟩:=h1';rw[a2U _ _ (by simp),onC,if_neg hc]
theorem b8u(c:UInt8)(l:List UInt8)(h:c≠44):Lib.index (c :: l) [44]=if Lib.index l [44]==-1 then -1 else Lib.index l [44]+1:=by
 rw[Lib.index];have:([44]:List UInt8).isPrefixOf (c :: l)=false:=by simp[List.isPrefixOf];exact fun e=>h e.symm
 rw[this];rfl
theorem b5c(l:List UInt8):Lib.index (44 :: l) [44]=0:=by
 rw[Lib.index];simp[List.isPrefixOf]
theorem b4B(c:UInt8)(l:List UInt8)(h:c≠44)(k:Nat):∃ p ps,Lib.splitK [44] 0 k l=p :: ps/\Lib.splitK [44] 0 k (c :: l)=(c :: p) :: ps:=by
 cases k with
 |zero=>exact⟨l,[],rfl,rfl⟩
 |succ k =>
  unfold Lib.splitK;rw[b8u c l h]
  by_cases hi:(Lib.index l [44]==-1)=true
  ·rw[if_pos hi,if_pos hi];exact⟨l,[],rfl,rfl⟩
  ·rw[if_neg hi,if_neg hi];have g:=Lib.index_ge l [44];have hn:Lib.index l [44]≠-1:=fun e=>hi (beq_iff_eq.2 e)
   rw[if_neg (by rw[beq_iff_eq];omega)];refine⟨_,_,rfl,?_⟩;obtain⟨i,hi'⟩:=Int.eq_ofNat_of_zero_le (show 0<=Lib.index l [44] by omega);rw[hi',show ((i:Int)+1).toNat=i+1 from by omega,show ((i:Int)).toNat=i from by omega];simp
theorem b5T:∀ l:List UInt8,Lib.splitK [44] 0 (l.count 44) l=sp l
 |[]=>rfl
 |c :: l=>by
  have ih:=b5T l
  by_cases h:c=44
  ·subst h;rw[List.count_cons_self,a4h,<- ih];rw[Lib.splitK,b5c];simp
  ·rw[List.count_cons_of_ne (by simpa using h)];obtain⟨p,ps,h1,h2⟩:=b4B c l h (l.count 44);rw[h2];rw[ih] at h1;simp[sp,h,h1]
def onW(s:ByteArray):Option (List Int):=onC s.data.toList []
def onB(s:ByteArray):Bool:=(onW s).isSome
theorem b9L(s:ByteArray):onP ((Lib.splitB ⟨#[44]⟩ 0 (Lib.countB s ⟨#[44]⟩) s).map (·.data.toList)) []=onW s:=by
 rw[Lib.splitB_data];have hc:Lib.countB s ⟨#[44]⟩=s.data.toList.count 44:=Lib.count_one 44 s.data.toList;rw[hc,show (ByteArray.mk #[44]).data.toList=[44] from rfl,b5T,b9V];rfl
end Go.Proofs.YtfigmlfdnickmaaGreatDoor.Txt
namespace Go.Proofs.YtfigmlfdnickmaaGreatDoor
def isd(acc:List Int)(j:Int):Bool:=acc.contains j
end Go.Proofs.YtfigmlfdnickmaaGreatDoor
namespace Go.Proofs.YtfigmlfdnickmaaGreatDoor
theorem a4i{α:Type}{lt:α->α->Prop}(hi:∀ x,¬ lt x x)(ht:∀ x y z,lt x y->lt y z->lt x z):∀ {l m:List α},l.Pairwise lt->m.Pairwise lt->(∀ x,x∈l↔x∈m)->l=m
 |[],[],_,_,_=>rfl
 |[],y :: m,_,_,h=>by have:=(h y).2 (by simp);simp at this
 |x :: l,[],_,_,h=>by have:=(h x).1 (by simp);simp at this
 |x :: l,y :: m,hl,hm,h=>by
  rw[List.pairwise_cons] at hl hm
  have e:x=y:=by
   rcases List.mem_cons.1 ((h x).1 (by simp)) with e|e
   ·exact e
   ·rcases List.mem_cons.1 ((h y).2 (by simp)) with k|k
    ·exact k.symm
    ·exact absurd (ht _ _ _ (hl.1 y k) (hm.1 x e)) (hi x)
  subst e
  congr 1
  refine a4i hi ht hl.2 hm.2 (fun z=>?_);constructor
  ·intro hz;rcases List.mem_cons.1 ((h z).1 (by simp[hz])) with e|e
   ·subst e;exact absurd (hl.1 z hz) (hi z)
   ·exact e
  ·intro hz;rcases List.mem_cons.1 ((h z).2 (by simp[hz])) with e|e
   ·subst e;exact absurd (hm.1 z hz) (hi z)
   ·exact e
namespace Rd
def a1p(p:Int->Bool):Nat->Int->List Int
 |0,_=>[]
 |k+1,d=>if p d then d :: a1p p k (d+1) else a1p p k (d+1)
theorem a5r(p:Int->Bool):∀ (k:Nat)(d x:Int),x∈a1p p k d↔d<=x/\x<d+k/\p x=true
 |0,d,x=>by simp[a1p];omega
 |k+1,d,x=>by
  have ih:=a5r p k (d+1) x;simp only[a1p]
  by_cases c:p d=true
  ·rw[if_pos c,List.mem_cons,ih];constructor
   ·rintro (rfl|⟨h1,h2,h3⟩)
    ·exact⟨Int.le_refl _,by omega,c⟩
    ·exact⟨by omega,by omega,h3⟩
   ·rintro ⟨h1,h2,h3⟩
    by_cases e:x=d
    ·exact .inl e
    ·exact .inr ⟨by omega,by omega,h3⟩
  ·rw[if_neg c,ih];constructor
   ·rintro ⟨h1,h2,h3⟩;exact⟨by omega,by omega,h3⟩
   ·rintro ⟨h1,h2,h3⟩;have:x≠d:=fun e=>c (e ▸ h3)
    exact⟨by omega,by omega,h3⟩
theorem a3X(p:Int->Bool):∀ (k:Nat)(d:Int),(a1p p k d).Pairwise (· < ·)
 |0,d=>by simp[a1p]
 |k+1,d=>by
  simp only[a1p]
  split
  ·rw[List.pairwise_cons];exact⟨fun x hx=>by have:=(a5r p k (d+1) x).1 hx;omega,a3X p k (d+1)⟩
  ·exact a3X p k (d+1)
theorem b8Z{l m:List Int}(hl:l.Pairwise (· < ·))(hm:m.Pairwise (· < ·))(h:∀ x,x∈l↔x∈m):l=m :=
 a4i (lt:=fun a b:Int=>a<b) (fun x=>by omega) (fun x y z h k=>by omega) hl hm h
def b0f(ev:Int):Nat->Int->List Int
 |0,_=>[]
 |k+1,d=>if d<728 then d :: b0f ev k (d+ev) else []
theorem b6d{ev:Int}(he:1<=ev):∀ (k:Nat)(d x:Int),728<=d+k->(x∈b0f ev k d↔d<=x/\x<728/\(x-d) % ev=0)
 |0,d,x,h=>by simp[b0f];omega
 |k+1,d,x,h=>by
  simp only[b0f]
  by_cases c:d<728
  ·rw[if_pos c,List.mem_cons,b6d he k (d+ev) x (by omega)];have e1:(x-(d+ev)) % ev=(x-d) % ev:=by rw[show x-(d+ev)=x-d-ev from by omega,Int.sub_emod_right]
   rw[e1];constructor
   ·rintro (rfl|⟨h1,h2,h3⟩)
    ·exact⟨Int.le_refl _,c,by simp⟩
    ·exact⟨by omega,h2,h3⟩
   ·rintro ⟨h1,h2,h3⟩
    by_cases e:d+ev<=x
    ·exact .inr ⟨e,h2,h3⟩
    ·rw[Int.emod_eq_of_lt (by omega) (by omega)] at h3;exact .inl (by omega)
  ·rw[if_neg c];simp;omega
theorem b4H{ev:Int}(he:1<=ev):∀ (k:Nat)(d:Int),(b0f ev k d).Pairwise (· < ·)/\∀ x∈b0f ev k d,d<=x
 |0,d=>by simp[b0f]
 |k+1,d=>by
  simp only[b0f];obtain⟨i1,i2⟩:=b4H he k (d+ev)
  split
  ·refine⟨List.pairwise_cons.2 ⟨fun x hx=>by have:=i2 x hx;omega,i1⟩,fun x hx=>?_⟩;rcases List.mem_cons.1 hx with rfl|hx
   ·exact Int.le_refl _
   ·have:=i2 x hx;omega
  ·simp
def c1K(acc:List Int)(fr mon:Int):List Int:=a1p (fun d=>isd acc (d-mon)) (mon+7-max mon fr).toNat (max mon fr)
def a9Y(acc:List Int)(fr ev:Int):Nat->Int->List Int
 |0,_=>[]
 |k+1,mon=>if mon<728 then c1K acc fr mon++a9Y acc fr ev k (mon+ev*7) else []
theorem b1o{mon:Int}:x∈c1K acc fr mon↔mon<=x/\fr<=x/\x<mon+7/\isd acc (x-mon)=true:=by
 unfold c1K;rw[a5r];constructor
 ·rintro ⟨h1,h2,h3⟩;exact⟨by omega,by omega,by omega,h3⟩
 ·rintro ⟨h1,h2,h3,h4⟩;exact⟨by omega,by omega,h4⟩
theorem b6b{acc:List Int}{fr ev:Int}(he:1<=ev):∀ (k:Nat)(mon x:Int),0<=mon->mon % 7=0->728<=mon+k->(x∈a9Y acc fr ev k mon↔mon<=x/\fr<=x/\x<728/\isd acc (x % 7)=true/\(x / 7-mon / 7) % ev=0)
 |0,mon,x,h0,h7,h=>by simp[a9Y];omega
 |k+1,mon,x,h0,h7,h=>by
  simp only[a9Y]
  by_cases c:mon<728
  ·have hev:(ev*7) % 7=0:=by omega
   rw[if_pos c,List.mem_append,b1o,b6b he k (mon+ev*7) x (by omega) (by omega) (by omega)];have e0:(mon+ev*7) / 7=mon / 7+ev:=by omega
   have e1:(x / 7-(mon+ev*7) / 7) % ev=(x / 7-mon / 7) % ev:=by rw[e0,show x / 7-(mon / 7+ev)=x / 7-mon / 7-ev from by omega,Int.sub_emod_right]
   rw[e1];constructor
   ·rintro (⟨h1,h2,h3,h4⟩|⟨h1,h2,h3,h4,h5⟩)
    ·have e2:x-mon=x % 7:=by omega
     have e3:x / 7-mon / 7=0:=by omega
     rw[e2] at h4;rw[e3];exact⟨h1,h2,by omega,h4,by simp⟩
    ·exact⟨by omega,h2,h3,h4,h5⟩
   ·rintro ⟨h1,h2,h3,h4,h5⟩
    by_cases e:x<mon+7
    ·have e2:x-mon=x % 7:=by omega
     exact .inl ⟨h1,h2,e,by rw[e2];exact h4⟩
    ·by_cases e':mon+ev*7<=x
     ·exact .inr ⟨e',h2,h3,h4,h5⟩
     ·rw[Int.emod_eq_of_lt (by omega) (by omega)] at h5;omega
  ·rw[if_neg c];simp;omega
theorem b4F{acc:List Int}{fr ev:Int}(he:1<=ev):∀ (k:Nat)(mon:Int),(a9Y acc fr ev k mon).Pairwise (· < ·)/\∀ x∈a9Y acc fr ev k mon,mon<=x
 |0,mon=>by simp[a9Y]
 |k+1,mon=>by
  simp only[a9Y];obtain⟨i1,i2⟩:=b4F (acc:=acc) (fr:=fr) he k (mon+ev*7)
  split
  ·refine⟨List.pairwise_append.2 ⟨a3X _ _ _,i1,fun x hx y hy=>?_⟩,fun x hx=>?_⟩
   ·have:=b1o.1 hx;have:=i2 y hy;omega
   ·rcases List.mem_append.1 hx with hx|hx
    ·exact (b1o.1 hx).1
    ·have:=i2 x hx;omega
  ·simp
def reached(y m:Int):Bool:=Cal.ok y m 1 && decide (Cal.num y m 1<728)
def a4E(y m ev:Int):Int:=y+(m-1+ev) / 12
def a3J(m ev:Int):Int:=(m-1+ev) % 12+1
def a4s(y m dt:Int):List Int:=if Cal.ok y m dt then [Cal.num y m dt] else []
def b0e(dt ev:Int):Nat->Int->Int->List Int
 |0,_,_=>[]
 |k+1,y,m=>if reached y m then a4s y m dt++b0e dt ev k (a4E y m ev) (a3J m ev) else []
theorem a8c{d y' m' d':Int}(h:Cal.ok y m d=true)(h':Cal.ok y' m' d'=true)(k:12*y+m<12*y'+m'):Cal.num y m d<Cal.num y' m' d':=by
 have i:=Cal.a9p y m d h;have i':=Cal.a9p y' m' d' h';obtain⟨h1,h2,h3,h4,h5,h6⟩:=(Cal.a2K y m d).1 h;obtain⟨g1,g2,g3,g4,g5,g6⟩:=(Cal.a2K y' m' d').1 h'
 by_cases e:y=y'
 ·subst e;have:=Cal.b2i y m m' h3 (by omega) (by omega);unfold Cal.num;omega
 ·have:=Cal.a9T (y+1) y' (by omega) (by omega);omega
theorem a6I(h1:1<=y)(h2:y<=9999)(h3:1<=m)(h4:m<=12):Cal.ok y m 1=true:=by
 have:=Cal.b3I y m;exact (Cal.a2K _ _ _).2 ⟨h1,h2,h3,h4,by omega,by omega⟩
theorem a8Z(h1:2024<=y)(h2:y<=9999)(h3:1<=m)(h4:m<=12):reached y m=true↔12*y+m<=24312:=by
 have o:=a6I (m:=m) (by omega:1<=y) h2 h3 h4;unfold reached;rw[o,Bool.true_and,decide_eq_true_eq];have e1:Cal.num 2025 12 1=700:=by decide
 have e2:Cal.num 2026 1 1=731:=by decide
 constructor
 ·intro h;apply Classical.byContradiction;intro c
  by_cases e:12*y+m=24313
  ·have:y=2026:=by omega
   have:m=1:=by omega
   subst_vars;omega
  ·have:=a8c (a6I (y:=2026) (m:=1) (by omega) (by omega) (by omega) (by omega)) o (by omega);omega
 ·intro h
  by_cases e:12*y+m=24312
  ·have:y=2025:=by omega
   have:m=12:=by omega
   subst_vars;omega
  ·have:=a8c o (a6I (y:=2025) (m:=12) (by omega) (by omega) (by omega) (by omega)) (by omega);omega
theorem b1N{ev:Int}:12*a4E y m ev+a3J m ev=12*y+m+ev/\1<=a3J m ev/\a3J m ev<=12:=by
 unfold a4E a3J;omega
theorem a6c(h0:0<=x)(h1:x<728):Cal.ok (Cal.yT x) (Cal.mT x) (Cal.dT x)=true/\Cal.num (Cal.yT x) (Cal.mT x) (Cal.dT x)=x/\2024<=Cal.yT x/\12*Cal.yT x+Cal.mT x<=24312:=by
 obtain⟨o,n⟩:=Cal.c6G x (by omega) (by omega);refine⟨o,n,?_,?_⟩
 ·apply Classical.byContradiction;intro c;obtain⟨g1,g2,g3,g4,g5,g6⟩:=(Cal.a2K _ _ _).1 o;have:=a8c o (a6I (y:=2024) (m:=1) (by omega) (by omega) (by omega) (by omega)) (by omega);have e:Cal.num 2024 1 1=0:=by decide
  omega
 ·apply Classical.byContradiction;intro c;obtain⟨g1,g2,g3,g4,g5,g6⟩:=(Cal.a2K _ _ _).1 o;have e2:Cal.num 2026 1 1=731:=by decide
  have o2:=a6I (y:=2026) (m:=1) (by omega) (by omega) (by omega) (by omega)
  by_cases e:12*Cal.yT x+Cal.mT x=24313
  ·have:Cal.yT x=2026:=by omega
   have e':Cal.mT x=1:=by omega
   rw[this,e'] at n
   have e3:Cal.num 2026 1 (Cal.dT x)=731+Cal.dT x-1:=by
    have:Cal.num 2026 1 (Cal.dT x)=Cal.num 2026 1 1+Cal.dT x-1:=by unfold Cal.num;omega
    omega
   omega
  ·have:=a8c o2 o (by omega);omega
theorem b6c{dt ev:Int}(he:1<=ev)(he2:ev<=99):∀ (k:Nat)(y m x:Int),2024<=y->y<=2034->1<=m->m<=12->24312<12*y+m+k->0<=x->x<728 ->
  (x∈b0e dt ev k y m↔Cal.dT x=dt/\12*y+m<=12*Cal.yT x+Cal.mT x/\(12*Cal.yT x+Cal.mT x-12*y-m) % ev=0)
 |0,y,m,x,hy,hy2,hm,hm2,hk,h0,h1=>by
  have:=(a6c h0 h1).2.2.2;simp[b0e];omega
 |k+1,y,m,x,hy,hy2,hm,hm2,hk,h0,h1=>by
  obtain⟨o,n,y0,mx⟩:=a6c h0 h1;obtain⟨g1,g2,g3,g4,g5,g6⟩:=(Cal.a2K _ _ _).1 o;simp only[b0e];have hr:=a8Z (y:=y) (m:=m) hy (by omega) hm hm2
  by_cases c:12*y+m<=24312
  ·rw[if_pos (hr.2 c),List.mem_append];obtain⟨l1,l2,l3⟩:=b1N (y:=y) (m:=m) (ev:=ev);rw[b6c he he2 k (a4E y m ev) (a3J m ev) x (by omega) (by omega) l2 l3 (by omega) h0 h1]
   have e1:(12*Cal.yT x+Cal.mT x-12*a4E y m ev-a3J m ev) % ev=(12*Cal.yT x+Cal.mT x-12*y-m) % ev:=by
    rw[show 12*Cal.yT x+Cal.mT x-12*a4E y m ev-a3J m ev=12*Cal.yT x+Cal.mT x-12*y-m-ev from by omega,Int.sub_emod_right]
   rw[e1,l1]
   have hin:x∈a4s y m dt↔Cal.dT x=dt/\12*y+m=12*Cal.yT x+Cal.mT x:=by
    unfold a4s;constructor
    ·intro h
     by_cases ok:Cal.ok y m dt=true
     ·rw[if_pos ok] at h;have:x=Cal.num y m dt:=by simpa using h
      obtain⟨a1,a2,a3⟩:=Cal.c4g y m dt x ok this.symm;exact⟨a3.symm,by omega⟩
     ·rw[if_neg ok] at h;simp at h
    ·rintro ⟨a1,a2⟩;have e2:y=Cal.yT x:=by omega
     have e3:m=Cal.mT x:=by omega
     subst a1;rw[e2,e3,if_pos o,n];simp
   rw[hin];constructor
   ·rintro (⟨a1,a2⟩|⟨a1,a2,a3⟩)
    ·refine⟨a1,by omega,?_⟩;rw[show 12*Cal.yT x+Cal.mT x-12*y-m=0 from by omega];simp
    ·exact⟨a1,by omega,a3⟩
   ·rintro ⟨a1,a2,a3⟩
    by_cases e:12*y+m+ev<=12*Cal.yT x+Cal.mT x
    ·exact .inr ⟨a1,e,a3⟩
    ·rw[Int.emod_eq_of_lt (by omega) (by omega)] at a3;exact .inl ⟨a1,by omega⟩
  ·have hn:¬ reached y m=true:=fun h=>c (hr.1 h)
   rw[if_neg hn];simp;omega
theorem b4G{dt ev:Int}(he:1<=ev):∀ (k:Nat)(y m:Int),1<=m->m<=12->(b0e dt ev k y m).Pairwise (· < ·)/\∀ x∈b0e dt ev k y m,∃ y' m',Cal.ok y' m' dt=true/\x=Cal.num y' m' dt/\12*y+m<=12*y'+m'
 |0,y,m,_,_=>by simp[b0e]
 |k+1,y,m,h1,h2=>by
  simp only[b0e];obtain⟨l1,l2,l3⟩:=b1N (y:=y) (m:=m) (ev:=ev);obtain⟨i1,i2⟩:=b4G (dt:=dt) he k (a4E y m ev) (a3J m ev) l2 l3
  split
  ·unfold a4s
   by_cases ok:Cal.ok y m dt=true
   ·rw[if_pos ok];refine⟨List.pairwise_append.2 ⟨by simp,i1,fun x hx z hz=>?_⟩,fun x hx=>?_⟩
    ·have:x=Cal.num y m dt:=by simpa using hx
     obtain⟨y',m',o,rfl,k⟩:=i2 z hz;rw[this];exact a8c ok o (by omega)
    ·rcases List.mem_append.1 hx with hx|hx
     ·have:x=Cal.num y m dt:=by simpa using hx
      exact⟨y,m,ok,this,Int.le_refl _⟩
     ·obtain⟨y',m',o,e,k⟩:=i2 x hx;exact⟨y',m',o,e,by omega⟩
   ·rw[if_neg ok];refine⟨by simpa using i1,fun x hx=>?_⟩;obtain⟨y',m',o,e,k⟩:=i2 x (by simpa using hx);exact⟨y',m',o,e,by omega⟩
  ·simp
structure a0Y where
 pc:Int
 ev:Int
 acc:List Int
 fr:Int
 mn:Int
 mi:Int
 ti:Int
 un:Int
structure a6s(r:a0Y):Prop where
 pc1:1<=r.pc
 pc3:r.pc<=3
 e1:1<=r.ev
 e2:r.ev<=99
 f0:0<=r.fr
 f1:r.fr<728
 m0:0<=r.mn
 m1:r.mn<1440
 i1:1<=r.mi
 i2:r.mi<=1048320
 t0:0<=r.ti
 t1:r.ti<=99
 u0:0<=r.un
 u1:r.un<728
def has(r:a0Y)(d:Int):Bool :=
 if r.pc=1 then decide ((d-r.fr) % r.ev=0)
 else if r.pc=2 then isd r.acc (d % 7) && decide ((d / 7-r.fr / 7) % r.ev=0)
 else decide (Cal.dT d=Cal.dT r.fr) && decide ((12*Cal.yT d+Cal.mT d-12*Cal.yT r.fr-Cal.mT r.fr) % r.ev=0)
def all(r:a0Y):List Int:=a1p (has r) (728-r.fr).toNat r.fr
theorem b5H{r:a0Y}(h:a6s r)(x:Int):x∈all r↔r.fr<=x/\x<728/\has r x=true:=by
 have:=h.f1;unfold all;rw[a5r];constructor
 ·rintro ⟨h1,h2,h3⟩;exact⟨h1,by omega,h3⟩
 ·rintro ⟨h1,h2,h3⟩;exact⟨h1,by omega,h3⟩
def seq(r:a0Y):List Int :=
 if r.pc=2 then a9Y r.acc r.fr r.ev 800 (r.fr-r.fr % 7)
 else if r.pc=3 then b0e (Cal.dT r.fr) r.ev 100 (Cal.yT r.fr) (Cal.mT r.fr)
 else b0f r.ev 800 r.fr
theorem c3S{r:a0Y}(h:a6s r):(seq r).Pairwise (· < ·):=by
 unfold seq
 split
 ·exact (b4F h.e1 _ _).1
 ·split
  ·have o:=(a6c h.f0 h.f1).1;obtain⟨g1,g2,g3,g4,g5,g6⟩:=(Cal.a2K _ _ _).1 o;exact (b4G h.e1 _ _ _ g3 g4).1
  ·exact (b4H h.e1 _ _).1
theorem b9A{r:a0Y}(h:a6s r)(h0:0<=x)(h1:x<728):x∈seq r↔r.fr<=x/\has r x=true:=by
 have f0:=h.f0;have f1:=h.f1;have p1:=h.pc1;have p3:=h.pc3;unfold seq has
 by_cases c2:r.pc=2
 ·rw[if_pos c2,if_neg (by omega),if_pos c2,b6b h.e1 800 _ x (by omega) (by omega) (by omega)];have e:(r.fr-r.fr % 7) / 7=r.fr / 7:=by omega
  rw[e,Bool.and_eq_true,decide_eq_true_eq];constructor
  ·rintro ⟨k1,k2,k3,k4,k5⟩;exact⟨k2,k4,k5⟩
  ·rintro ⟨k2,k4,k5⟩;exact⟨by omega,k2,h1,k4,k5⟩
 ·rw[if_neg c2]
  by_cases c3:r.pc=3
  ·rw[if_pos c3,if_neg (by omega),if_neg c2];obtain⟨o,n,y0,mx⟩:=a6c h.f0 h.f1;obtain⟨g1,g2,g3,g4,g5,g6⟩:=(Cal.a2K _ _ _).1 o;rw[b6c h.e1 h.e2 100 _ _ x y0 (by omega) g3 g4 (by omega) h0 h1,Bool.and_eq_true,decide_eq_true_eq,decide_eq_true_eq];obtain⟨ox,nx,yx,mxx⟩:=a6c h0 h1;constructor
   ·rintro ⟨k1,k2,k3⟩;refine⟨?_,k1,k3⟩
    by_cases e:12*Cal.yT r.fr+Cal.mT r.fr=12*Cal.yT x+Cal.mT x
    ·obtain⟨j1,j2,j3,j4,j5,j6⟩:=(Cal.a2K _ _ _).1 ox;have e1:Cal.yT r.fr=Cal.yT x:=by omega
     have e2:Cal.mT r.fr=Cal.mT x:=by omega
     rw[e1,e2,<- k1] at n;omega
    ·have:=a8c o ox (by omega);omega
   ·rintro ⟨k1,k2,k3⟩;refine⟨k2,?_,k3⟩;apply Classical.byContradiction;intro c;have:=a8c ox o (by omega);omega
  ·rw[if_neg c3,if_pos (by omega),b6d h.e1 800 _ x (by omega),decide_eq_true_eq];constructor
   ·rintro ⟨k1,k2,k3⟩;exact⟨k1,k3⟩
   ·rintro ⟨k1,k3⟩;exact⟨k1,h1,k3⟩
theorem b1t{l:List Int}(h:l.Pairwise (· < ·))(b x:Int):x∈l.takeWhile (fun d=>decide (d<=b))↔x∈l/\x<=b:=by
 induction l with
 |nil=>simp
 |cons d l ih =>
  rw[List.pairwise_cons] at h;rw[List.takeWhile_cons]
  by_cases c:d<=b
  ·simp only[c,decide_true,if_true,List.mem_cons,ih h.2];constructor
   ·rintro (rfl|⟨k1,k2⟩)
    ·exact⟨.inl rfl,c⟩
    ·exact⟨.inr k1,k2⟩
   ·rintro ⟨rfl|k1,k2⟩
    ·exact .inl rfl
    ·exact .inr ⟨k1,k2⟩
  ·simp only[c,decide_false,Bool.false_eq_true,if_false,List.not_mem_nil,false_iff,List.mem_cons];rintro ⟨rfl|k1,k2⟩
   ·exact c k2
   ·have:=h.1 x k1;omega
theorem c3T{r:a0Y}(h:a6s r)(hb:b<728):(seq r).takeWhile (fun d=>decide (d<=b))=(all r).filter (fun d=>decide (d<=b)):=by
 refine b8Z ?_ ?_ (fun x=>?_)
 ·exact List.Pairwise.sublist (List.takeWhile_sublist _) (c3S h)
 ·exact List.Pairwise.filter _ (a3X _ _ _)
 ·rw[b1t (c3S h),List.mem_filter,b5H h,decide_eq_true_eq];have f0:=h.f0
  have low:x∈seq r->0<=x:=by
   intro hx;unfold seq at hx
   split at hx
   ·have:=(b4F h.e1 _ _).2 x hx;omega
   ·split at hx
    ·have o:=(a6c h.f0 h.f1);obtain⟨g1,g2,g3,g4,g5,g6⟩:=(Cal.a2K _ _ _).1 o.1;obtain⟨y',m',o',rfl,k⟩:=(b4G h.e1 _ _ _ g3 g4).2 x hx
     by_cases e:12*Cal.yT r.fr+Cal.mT r.fr=12*y'+m'
     ·obtain⟨j1,j2,j3,j4,j5,j6⟩:=(Cal.a2K _ _ _).1 o';have e1:Cal.yT r.fr=y':=by omega
      have e2:Cal.mT r.fr=m':=by omega
      rw[<- e1,<- e2,o.2.1];omega
     ·have:=a8c o.1 o' (by omega);have:=o.2.1;omega
    ·have:=(b4H h.e1 _ _).2 x hx;omega
  constructor
  ·rintro ⟨k1,k2⟩;have k0:=low k1;obtain⟨k3,k4⟩:=(b9A h k0 (by omega)).1 k1;exact⟨⟨k3,by omega,k4⟩,k2⟩
  ·rintro ⟨⟨k1,k2,k3⟩,k4⟩;exact⟨(b9A h (by omega) k2).2 ⟨k1,k3⟩,k4⟩
theorem c4L{r:a0Y}(h:a6s r):(seq r).takeWhile (fun d=>decide (d<=727))=all r:=by
 rw[c3T h (by omega)];exact List.filter_eq_self.2 (fun x hx=>by have:=(b5H h x).1 hx;simp;omega)
def a0t(r:a0Y):List Int:=if 0<r.ti then ((seq r).takeWhile (fun d=>decide (d<=727))).take r.ti.toNat else ((seq r).takeWhile (fun d=>decide (d<=r.un))).take 41
def b4L(r:a0Y)(l:List Int)(d:Int):List Int:=if has r d/\((r.ti=0/\d<=r.un)\/(0<r.ti/\(l.length:Int)<r.ti)) then l++[d] else l
def a4Y(r:a0Y):Nat->Int->List Int->List Int
 |0,_,l=>l
 |k+1,d,l=>a4Y r k (d+1) (b4L r l d)
theorem a7Y{r:a0Y}(h:r.ti=0):∀ (k:Nat)(d:Int)(l:List Int),a4Y r k d l=l++(a1p (has r) k d).filter (fun d=>decide (d<=r.un))
 |0,d,l=>by simp[a4Y,a1p]
 |k+1,d,l=>by
  simp only[a4Y,a1p];rw[a7Y h k (d+1)];unfold b4L
  by_cases c:has r d=true
  ·rw[if_pos c,List.filter_cons]
   by_cases c2:d<=r.un
   ·rw[if_pos ⟨c,.inl ⟨h,c2⟩⟩,if_pos (by simp[c2])];simp
   ·rw[if_neg (by omega),if_neg (by simp[c2])]
  ·rw[if_neg c,if_neg (fun e=>c e.1)]
theorem a3e{r:a0Y}(h:0<r.ti):∀ (k:Nat)(d:Int)(l:List Int),(l.length:Int)<=r.ti->a4Y r k d l=l++(a1p (has r) k d).take (r.ti.toNat-l.length)
 |0,d,l,_=>by simp[a4Y,a1p]
 |k+1,d,l,hl=>by
  simp only[a4Y,a1p];unfold b4L
  by_cases c:has r d=true
  ·rw[if_pos c]
   by_cases c2:(l.length:Int)<r.ti
   ·rw[if_pos ⟨c,.inr ⟨h,c2⟩⟩,a3e h k (d+1) _ (by simp;omega)];have e:r.ti.toNat-l.length=(r.ti.toNat-(l++[d]).length)+1:=by simp;omega
    rw[e,List.take_succ_cons];simp
   ·rw[if_neg (by omega),a3e h k (d+1) _ hl];have e:r.ti.toNat-l.length=0:=by omega
    rw[e];simp
  ·rw[if_neg c,if_neg (fun e=>c e.1),a3e h k (d+1) _ hl]
def a0E(r:a0Y):List Int:=a4Y r (728-r.fr).toNat r.fr []
theorem a7N{r:a0Y}(h:a6s r):a0E r=if 0<r.ti then (all r).take r.ti.toNat else (all r).filter (fun d=>decide (d<=r.un)):=by
 have t0:=h.t0;unfold a0E
 split
 ·rw[a3e (by assumption) _ _ _ (by simp;omega)];simp[all]
 ·rw[a7Y (by omega)];simp[all]
theorem b3M{r:a0Y}(h:a6s r):a0t r=if 0<r.ti then a0E r else (a0E r).take 41:=by
 rw[a7N h];unfold a0t
 split
 ·rw[c4L h]
 ·rw[c3T h h.u1]
def a8m(r:a0Y)(d:Int):Bool:=decide (1048320<d*1440+r.mn+r.mi)
def a6W(r:a0Y):Int :=
 if 40<(a0E r).length\/40<r.ti then 11 else if a0E r=[]\/((a0E r).length:Int)<r.ti then 6 else if (a0E r).any (a8m r) then 6 else 0
def a0L(r:a0Y):Int :=
 if 40<r.ti then 11 else if 40<(a0t r).length then 11 else if a0t r=[]\/((a0t r).length:Int)<r.ti then 6 else if a8m r ((a0t r).getLastD 0) then 6 else 0
theorem b0X{r:a0Y}(h:a6s r):(a0E r).Pairwise (· < ·):=by
 rw[a7N h]
 split
 ·exact List.Pairwise.sublist (List.take_sublist _ _) (a3X _ _ _)
 ·exact List.Pairwise.filter _ (a3X _ _ _)
theorem a4x{r:a0Y}(h:a6s r)(hx:x∈a0E r):r.fr<=x/\x<728:=by
 rw[a7N h] at hx
 have:x∈all r:=by
  split at hx
  ·exact List.mem_of_mem_take hx
  ·exact (List.mem_filter.1 hx).1
 have:=(b5H h x).1 this;exact⟨this.1,this.2.1⟩
theorem a5c{r:a0Y}:∀ {l:List Int},l.Pairwise (· < ·)->l≠[]->l.any (a8m r)=a8m r (l.getLastD 0)
 |[],_,h=>absurd rfl h
 |[d],_,_=>by simp
 |d :: e :: l,h,_=>by
  rw[List.pairwise_cons] at h;have ih:=a5c (r:=r) (l:=e :: l) h.2 (by simp);rw[List.any_cons,ih];have e1:(d :: e :: l).getLastD 0=(e :: l).getLastD 0:=by simp[List.getLastD]
  rw[e1]
  cases hb:a8m r d
  ·simp
  ·have hm:(e :: l).getLastD 0∈e :: l:=by
    have:(e :: l).getLastD 0=(e :: l).getLast (by simp):=by simp[List.getLastD]
    rw[this];exact List.getLast_mem _
   have:=h.1 _ hm;simp only[a8m,decide_eq_true_eq] at hb;simp only[a8m,Bool.true_or];exact (decide_eq_true (by omega)).symm
theorem a5K{r:a0Y}(h:a6s r):a0L r=a6W r/\(a6W r=0->a0t r=a0E r/\a0E r≠[]/\(a0E r).length<=40/\∀ d∈a0E r,d*1440+r.mn+r.mi<=1048320):=by
 have ds:=b3M h;have up:=b0X h;have t0:=h.t0
 have fin:∀ {l:List Int},l≠[]->¬ l.any (a8m r)=true->∀ d∈l,d*1440+r.mn+r.mi<=1048320:=by
  intro l _ hn d hd;apply Classical.byContradiction;intro c;exact hn (List.any_eq_true.2 ⟨d,hd,by simp only[a8m,decide_eq_true_eq];omega⟩)
 unfold a0L a6W
 by_cases c:0<r.ti
 ·rw[if_pos c] at ds;rw[ds]
  by_cases c1:40<r.ti
  ·rw[if_pos c1,if_pos (.inr c1)];exact⟨rfl,fun e=>by omega⟩
  ·rw[if_neg c1]
   by_cases c2:40<(a0E r).length
   ·rw[if_pos c2,if_pos (.inl c2)];exact⟨rfl,fun e=>by omega⟩
   ·have cm:¬ (40<(a0E r).length\/40<r.ti):=by omega
    rw[if_neg c2,if_neg cm]
    by_cases c3:a0E r=[]\/((a0E r).length:Int)<r.ti
    ·rw[if_pos c3,if_pos c3];exact⟨rfl,fun e=>by omega⟩
    ·have hne:a0E r≠[]:=fun e=>c3 (.inl e)
     rw[if_neg c3,if_neg c3,a5c up hne];refine⟨rfl,fun e=>⟨rfl,hne,by omega,fin hne ?_⟩⟩;rw[a5c up hne];intro hl;rw[if_pos hl] at e;omega
 ·rw[if_neg c] at ds;have ct:¬ 40<r.ti:=by omega
  rw[ds,if_neg ct]
  by_cases c2:40<(a0E r).length
  ·have:40<((a0E r).take 41).length:=by rw[List.length_take];omega
   rw[if_pos this,if_pos (.inl c2)];exact⟨rfl,fun e=>by omega⟩
  ·have e41:(a0E r).take 41=a0E r:=List.take_of_length_le (by omega);have cm:¬ (40<(a0E r).length\/40<r.ti):=by omega
   rw[e41,if_neg c2,if_neg cm]
   by_cases c3:a0E r=[]\/((a0E r).length:Int)<r.ti
   ·rw[if_pos c3,if_pos c3];exact⟨rfl,fun e=>by omega⟩
   ·have hne:a0E r≠[]:=fun e=>c3 (.inl e)
    rw[if_neg c3,if_neg c3,a5c up hne];refine⟨rfl,fun e=>⟨rfl,hne,by omega,fin hne ?_⟩⟩;rw[a5c up hne];intro hl;rw[if_pos hl] at e;omega
def a2M(r:a0Y)(l:List Int):List (Int × Int):=l.map fun d=>(d*1440+r.mn,d*1440+r.mn+r.mi)
end Rd
open Go.RowKit
namespace Desk
def a2r(name:ByteArray)(es:List Ent)(a b:Int)(m x:Int):Int:=if a<x/\x<b/\m<a0o name x es then a0o name x es else m
def a1Q(name:ByteArray)(es:List Ent)(a b:Int):Int:=(a2L name es).foldl (a2r name es a b) (a0o name a es)
end Desk
theorem f9U(d:Nat)(a:Option Addr)(cap E:Nat)(es:List Desk.Ent)(name:ByteArray)(fr til:Int)(w:World)(h:RDE w d a cap E es)(hl:es.length<=1000)(hs:∀ e∈es,Desk.Small e):
  Calls Tryz.prog 236 #[.pointer (some ⟨d,0,none⟩),.string name,.int .i64 fr,.int .i64 til] w fun e w'=>e=.returned (.int .i64 (Desk.a1Q name es fr til))/\Below w.heap.size w w':=by
 have ST:=a0b (fun w' (k:Below w.heap.size w w')=>e0b d a cap E es name w' (h.later k) hl hs);have TK:=a0b (fun t w' (k:Below w.heap.size w w')=>e3v d a cap E es name t w' (h.later k) hl hs);have sz:=d4X name es hs;have hpk:Desk.a1Q name es fr til=(Desk.a2L name es).foldl (Desk.a2r name es fr til) (Desk.a0o name fr es):=rfl;rw[hpk];generalize Desk.a2L name es=l at *;have eln:l.length<=100000:=by omega
 clear h hs hpk sz
 go_enter Tryz.func236,Tryz.ntmps236
 go_wp2_with fail
 refine (TK.out _ _ (zr _ _)).mono ?_;rintro e w1 ⟨rfl,hb1⟩;have HB1:=a0b hb1;clear hb1
 go_wp2_with fail
 refine (ST.out _ HB1.out).mono ?_;rintro e w2 ⟨v2,rfl,ho2,hb2⟩;obtain⟨a2,c2,g2,rfl,hn2,ha2,hr2⟩:=e1E ho2;have R2:=a0b (And.intro ha2 (And.intro hr2 (a0j HB1.out hb2 (zq _))));clear ST ho2 hb2 ha2 hr2 HB1 hn2
 go_wp2_with fail
 go_loopw [9,11,12] (fun m i _ wx=>∃ j:Nat,j<=l.length/\i=.int .i64 j/\m=.int .i64 ((l.take j).foldl (Desk.a2r name es fr til) (Desk.a0o name fr es))/\Below w2.heap.size w2 wx) (fun _ i _ _=>l.length-(intOf i).toNat)
 case atStart=>exact⟨0,Nat.zero_le _,rfl,rfl,Below.refl _ _⟩
 case round =>
  obtain⟨j,hj,rfl,rfl,hb⟩:=hrel;have hbw:=a0j R2.out.2.2 hb (zq _);have HBW:=a0b hbw;have HB:=a0b hb;clear hbw
  by_cases hjl:j<l.length
  ·obtain rfl:=R2.out.1 (by intro e;simp[e] at hjl);have c0:=a0a hb (R2.out.2.1 j hjl);have hi2:(j:Int)<(l.length:Int):=by omega
   have hst:(l.take (j+1)).foldl (Desk.a2r name es fr til) (Desk.a0o name fr es)=Desk.a2r name es fr til ((l.take j).foldl (Desk.a2r name es fr til) (Desk.a0o name fr es)) l[j]:=by
    rw[List.take_succ_eq_append_getElem hjl,List.foldl_append];rfl
   have HST:=a0b hst;have TK1:=a0b (TK.out l[j]);generalize (l.take j).foldl (Desk.a2r name es fr til) (Desk.a0o name fr es)=m at *;have HPS:Hid (Desk.a2r name es fr til m l[j]=if fr<l[j]/\l[j]<til/\m<Desk.a0o name l[j] es then Desk.a0o name l[j] es else m):=rfl;generalize Desk.a0o name l[j] es=tk at *;clear hst hb
   by_cases h1:fr<l[j]
   ·by_cases h2:l[j]<til
    ·by_cases h3:m<tk
     ·have HE:Hid ((l.take (j+1)).foldl (Desk.a2r name es fr til) (Desk.a0o name fr es)=tk):=by show _=tk;rw[HST.out,HPS.out,if_pos ⟨h1,h2,h3⟩]
      go_wp2_with fail
      refine (TK1.out _ HBW.out).mono ?_;rintro e w4 ⟨rfl,hb4⟩;have HB4:=a0b (a0j HB.out hb4 (zq _));clear hb4 TK1
      go_wp2_with fail
      go_roundw
      case rel=>exact⟨j+1,by omega,by go_num,by rw[HE.out],HB4.out⟩
      case measure=>simp[intOf];omega
     ·have HE:Hid ((l.take (j+1)).foldl (Desk.a2r name es fr til) (Desk.a0o name fr es)=m):=by show _=m;rw[HST.out,HPS.out,if_neg (fun x=>h3 x.2.2)]
      go_wp2_with fail
      refine (TK1.out _ HBW.out).mono ?_;rintro e w4 ⟨rfl,hb4⟩;have HB4:=a0b (a0j HB.out hb4 (zq _));clear hb4 TK1
      go_wp2_with fail
      go_roundw
      case rel=>exact⟨j+1,by omega,by go_num,by rw[HE.out],HB4.out⟩
      case measure=>simp[intOf];omega
    ·have HE:Hid ((l.take (j+1)).foldl (Desk.a2r name es fr til) (Desk.a0o name fr es)=m):=by show _=m;rw[HST.out,HPS.out,if_neg (fun x=>h2 x.2.1)]
     go_wp2_with fail
     go_roundw
     case rel=>exact⟨j+1,by omega,by go_num,by rw[HE.out],HB.out⟩
     case measure=>simp[intOf];omega
   ·have HE:Hid ((l.take (j+1)).foldl (Desk.a2r name es fr til) (Desk.a0o name fr es)=m):=by show _=m;rw[HST.out,HPS.out,if_neg (fun x=>h1 x.1)]
    go_wp2_with fail
    go_roundw
    case rel=>exact⟨j+1,by omega,by go_num,by rw[HE.out],HB.out⟩
    case measure=>simp[intOf];omega
  ·have e:l.take j=l:=List.take_of_length_le (by omega);have hi2:¬ (j:Int)<(l.length:Int):=by omega
   clear hb
   go_wp2_with fail
   go_ret;exact⟨a1L (by first|rfl|rw[e]),HBW.out⟩
namespace Desk
def b5k:List Ent->List Int
 |[]=>[]
 |e :: r=>e.a0e.map (·.2)++b5k r
theorem e4Y(l r:List Ent):b5k (l++r)=b5k l++b5k r:=by
 induction l with
 |nil=>rfl
 |cons e l ih=>simp only[List.cons_append,b5k,ih,List.append_assoc]
def a3O(ts:List (ByteArray × Int))(es:List Ent)(name:ByteArray)(a0c long fr til best s:Int):Int :=
 if s<fr\/til<s+long\/(0<=best/\best<=s) then best else if a1e ts es name a0c [(s,s+long)] then s else best
def a9A(ts:List (ByteArray × Int))(es:List Ent)(name:ByteArray)(a0c long fr til:Int):Int:=(fr :: b5k es).foldl (a3O ts es name a0c long fr til) (-1)
def g0K(es:List Ent):Prop:=∀ e∈es,∀ s∈e.a0e,0<=s.2/\s.2<=2000000
theorem e4X(l:List Ent)(h:∀ e∈l,Small e):(b5k l).length<=100*l.length:=by
 induction l with
 |nil=>simp[b5k]
 |cons e l ih =>
  have i:=ih (fun x hx=>h x (by simp[hx]));have s:=(h e (by simp)).sl;simp only[b5k,List.length_append,List.length_cons,List.length_map];omega
theorem f6a(l:List Ent)(h:g0K l):∀ x∈b5k l,0<=x/\x<=2000000:=by
 induction l with
 |nil=>simp[b5k]
 |cons e l ih =>
  intro x hx;simp only[b5k,List.mem_append,List.mem_map] at hx;rcases hx with ⟨s,hs,rfl⟩|hx
  ·exact h e (by simp) s hs
  ·exact ih (fun e he=>h e (by simp[he])) x hx
end Desk
def d3q(fr:Int)(l:List Desk.Ent)(e:Desk.Ent)(j:Nat):List Int:=fr :: (Desk.b5k l++(e.a0e.take j).map (·.2))
theorem f9W(d:Nat)(a:Option Addr)(cap E:Nat)(es:List Desk.Ent)(at_:Option Addr)(ct G:Nat)(ts:List (ByteArray × Int))(name:ByteArray)(a0c long fr til:Int)(w:World)(h:RDE w d a cap E es)(ht:RDT w d at_ ct G ts)(hl:es.length<=1000)(htl:ts.length<=1000)(hs:∀ e∈es,Desk.Small e)(he:Desk.g0K es)(hu0:0<=a0c)(hu1:a0c<=9)(hl0:0<=long)(hl1:long<=2000000)(hf0:0<=fr)(hf1:fr<=2000000):
  Calls Tryz.prog 237 #[.pointer (some ⟨d,0,none⟩),.string name,.int .i64 a0c,.int .i64 long,.int .i64 fr,.int .i64 til] w fun e w'=>e=.returned (.int .i64 (Desk.a9A ts es name a0c long fr til))/\Below w.heap.size w w':=by
 obtain⟨i0,hi0,hz0,hz1,hz2⟩:=info_parts b1S;have FT:=a0b (fun w' (k:Below w.heap.size w w') B cb L hL hll=>f0u d a cap E es at_ ct G ts name a0c B cb L w' (h.later k) (ht.later k) hL hl htl hs hll hu0 hu1);have H:=a0b h;have HS:=a0b hs;have sz:=Desk.e4X es hs
 have hmem:Hid (∀ x∈fr :: Desk.b5k es,0<=x/\x<=2000000):=by
  intro x hx;rcases List.mem_cons.1 hx with rfl|hx
  ·exact⟨hf0,hf1⟩
  ·exact Desk.f6a es he x hx
 have hfn:Desk.a9A ts es name a0c long fr til=(fr :: Desk.b5k es).foldl (Desk.a3O ts es name a0c long fr til) (-1):=rfl;rw[hfn];obtain⟨l,hl2⟩:∃ l,fr :: Desk.b5k es=l:=⟨_,rfl⟩;have eln:l.length<=100100:=by rw[<- hl2,List.length_cons];omega
 rw[hl2] at hmem ⊢;have HL2:=a0b hl2;clear h ht hs he hfn hl2
 go_enter Tryz.func237,Tryz.ntmps237
 go_wp2_with fail
 have o0:(w.alloc (.cells #[.int .i64 fr] 3)).ownsRow w.heap.size 3 1 (.slice (some ⟨w.heap.size,0,none⟩) 1 1) 1 ([fr].map (Value.int .i64)) :=
  ⟨rfl,.inr ⟨w.heap.size,1,#[.int .i64 fr],rfl,Nat.le_refl _,a0p _ _,Nat.le_refl _,by unfold maxLen;omega,rfl,rfl⟩⟩
 have O0:=a0b (And.intro o0 ((zr _ w).alloc (zq _) (.cells #[.int .i64 fr] 3)));clear o0
 go_loopw [13,14,15] (fun v i _ wx=>∃ k:Nat,k<=es.length/\i=.int .i64 k/\wx.ownsRow w.heap.size 3 1 v (fr :: Desk.b5k (es.take k)).length ((fr :: Desk.b5k (es.take k)).map (Value.int .i64))/\Below w.heap.size w wx) (fun _ i _ _=>es.length-(intOf i).toNat)
 case atStart=>exact⟨0,Nat.zero_le _,rfl,O0.out.1,O0.out.2⟩
 case round =>
  obtain⟨k,hk,rfl,hown,hb⟩:=hrel;have bl:=List.length_take_le k es;have hx:=H.out.later hb;have cc:=hx.c;have sz2:=Desk.e4X (es.take k) (fun e he=>HS.out e (List.mem_of_mem_take he))
  by_cases hlt:k<es.length
  ·obtain rfl:=H.out.at hlt;obtain⟨B,cp,hr0⟩:=H.out.r k hlt;have c4:=(hr0.later hb).c4;have hsm:=HS.out es[k] (zg hlt);have hi:(k:Int)<(es.length:Int):=by omega
   have e:fr :: Desk.b5k (es.take (k+1))=fr :: (Desk.b5k (es.take k)++es[k].a0e.map (·.2)):=by
    rw[List.take_succ_eq_append_getElem hlt,Desk.e4Y];simp[Desk.b5k]
   have EE:=a0b e;have sl:=hsm.sl;have R0:=a0b hr0;have HO:=a0b (And.intro hown hb);clear e hr0 hx hsm hown hb
   go_wp2_with fail
   go_loopw [13,15] (fun v i wx=>∃ j:Nat,j<=es[k].a0e.length/\i=.int .i64 j/\wx.ownsRow w.heap.size 3 1 v (d3q fr (es.take k) es[k] j).length ((d3q fr (es.take k) es[k] j).map (Value.int .i64))/\Below w.heap.size w wx) (fun _ i _=>es[k].a0e.length-(intOf i).toNat)
   case atStart=>exact⟨0,Nat.zero_le _,rfl,by rw[d3q];simpa using HO.out.1,HO.out.2⟩
   case round =>
    obtain⟨j,hj,rfl,hown,hb⟩:=hrel;clear cc c4;have cc:=(H.out.later hb).c;have c4:=(R0.out.later hb).c4;have HOB:=a0b (And.intro hown hb);have hbs2:=hb.size
    by_cases hjl:j<es[k].a0e.length
    ·have r1:=(R0.out.sl.later hb j hjl).2;have hi2:(j:Int)<(es[k].a0e.length:Int):=by omega
     have es1:d3q fr (es.take k) es[k] (j+1)=d3q fr (es.take k) es[k] j++[es[k].a0e[j].2]:=by
      unfold d3q;rw[List.take_succ_eq_append_getElem hjl,List.map_append,List.cons_append,List.append_assoc];rfl
     have ES:=a0b es1
     have eln2:(d3q fr (es.take k) es[k] j).length<=100*k+101:=by
      unfold d3q;have:=List.length_take_le j es[k].a0e;simp only[List.length_cons,List.length_append,List.length_map];omega
     clear es1 hb
     go_wp2_with (first
      |(at_builtin;refine wpList_append_own _ rfl _ _ 38 rfl w.heap.size 3 i0 (.int .i64 0) 1 8 Tryz.underlying38 hi0 hz0 hz1 hz2 rfl (by decide) _ _ _ rfl (hown.alloc _) ⟨wr.heap.size,0,none⟩ 1 1 [.int .i64 es[k].a0e[j].2] rfl rfl (World.news_of_block (cs:=#[.int .i64 es[k].a0e[j].2]) (a0p wr _)) (by simp[Value.oneCell']) (by unfold maxLen;omega) (by omega) (by simp;omega) ?_;intro v' w' hown' hgrow _))
     have hb':Below w.heap.size w w':=(HOB.out.2.alloc hbs2 _).grown hgrow (by simp;omega) (fun k hk=>d0G HOB.out.1 hk)
     have HK:Hid (w'.ownsRow w.heap.size 3 1 v' (d3q fr (es.take k) es[k] (j+1)).length ((d3q fr (es.take k) es[k] (j+1)).map (Value.int .i64))):=by
      show w'.ownsRow _ _ _ _ _ _;rw[ES.out,List.map_append,List.length_append];exact hown'
     have HB2:=a0b hb';clear hown' hgrow hb' hown HOB r1 cc c4
     go_wp2_with fail
     go_roundw
     case rel=>exact⟨j+1,by omega,by go_num,HK.out,HB2.out⟩
     case measure=>simp[intOf];omega
    ·have hi2:¬ (j:Int)<(es[k].a0e.length:Int):=by omega
     have hfin:d3q fr (es.take k) es[k] j=fr :: Desk.b5k (es.take (k+1)):=by
      have et:es[k].a0e.take j=es[k].a0e:=List.take_of_length_le (by omega);rw[EE.out,d3q,et]
     have HK:Hid (wr.ownsRow w.heap.size 3 1 u13 (fr :: Desk.b5k (es.take (k+1))).length ((fr :: Desk.b5k (es.take (k+1))).map (Value.int .i64))):=by
      show wr.ownsRow _ _ _ _ _ _;rw[<- hfin];exact hown
     clear hown hb hfin
     go_wp2_with fail
     go_roundw
     case rel=>exact⟨k+1,by omega,by go_num,HK.out,HOB.out.2⟩
     case measure=>simp[intOf];omega
  ·have e:es.take k=es:=List.take_of_length_le (by omega);have hi:¬ (k:Int)<(es.length:Int):=by omega
   rw[e,HL2.out] at hown;obtain⟨a2,c2,g2,rfl,hn2,ha2,hr2⟩:=e1E hown;have R2:=a0b (And.intro ha2 (And.intro hr2 hb));clear hown hb e ha2 hr2 hn2 HL2 hx O0
   go_wp2_with fail
   go_loopw [16,17,18,19] (fun b i _ _ wx=>∃ j:Nat,j<=l.length/\i=.int .i64 j/\b=.int .i64 ((l.take j).foldl (Desk.a3O ts es name a0c long fr til) (-1))/\Below w.heap.size w wx/\∀ (i:Nat) (hi:i<l.length),wx.cell? ⟨g2,i,none⟩=some (.int .i64 l[i])) (fun _ i _ _ _=>l.length-(intOf i).toNat)
   case atStart=>exact⟨0,Nat.zero_le _,rfl,rfl,R2.out.2.2,R2.out.2.1⟩
   case round =>
    obtain⟨j,hj,rfl,rfl,hb,hcell⟩:=hrel;have HBW:=a0b hb;have HC:=a0b hcell;clear hcell
    by_cases hjl:j<l.length
    ·obtain rfl:=R2.out.1 (by intro e;simp[e] at hjl);have c0:=HC.out j hjl;have hi2:(j:Int)<(l.length:Int):=by omega
     have hst:(l.take (j+1)).foldl (Desk.a3O ts es name a0c long fr til) (-1)=Desk.a3O ts es name a0c long fr til ((l.take j).foldl (Desk.a3O ts es name a0c long fr til) (-1)) l[j]:=by
      rw[List.take_succ_eq_append_getElem hjl,List.foldl_append];rfl
     have HST:=a0b hst;have hm:=hmem.out l[j] (zg hjl);generalize (l.take j).foldl (Desk.a3O ts es name a0c long fr til) (-1)=b at *;generalize l[j]=sx at *;have HPS:Hid (Desk.a3O ts es name a0c long fr til b sx=if sx<fr\/til<sx+long\/(0<=b/\b<=sx) then b else if Desk.a1e ts es name a0c [(sx,sx+long)] then sx else b):=rfl;clear hst hb
     by_cases hskip:sx<fr\/til<sx+long\/(0<=b/\b<=sx)
     ·have HE:Hid ((l.take (j+1)).foldl (Desk.a3O ts es name a0c long fr til) (-1)=b):=by show _=b;rw[HST.out,HPS.out,if_pos hskip]
      have hcs:sx<fr\/(¬ sx<fr/\til<sx+long)\/(¬ sx<fr/\¬ til<sx+long/\0<=b/\b<=sx):=by omega
      clear hskip;rcases hcs with q1|⟨q1,q2⟩|⟨q1,q2,q3,q4⟩
      all_goals
       go_wp2_with fail
       go_roundw
       case rel=>exact⟨j+1,by omega,by go_num,by rw[HE.out],HBW.out,HC.out⟩
       case measure=>simp[intOf];omega
     ·have hB:RSL (wr.alloc (.cells #[.int .i64 sx,.int .i64 (sx+long)] 60)) wr.heap.size [(sx,sx+long)]:=by
       intro i hi;have:i=0:=by simpa using hi
       subst this;exact⟨by simp,by simp⟩
      have hbX:Below w.heap.size w (wr.alloc (.cells #[.int .i64 sx,.int .i64 (sx+long)] 60)):=a0j HBW.out ((zr _ _).alloc (zq _) _) (zq _);have FT1:=a0b (FT.out _ hbX wr.heap.size 1 [(sx,sx+long)] hB (by simp));have HBX:=a0b hbX;have HCX:Hid (∀ (i:Nat) (hi:i<l.length),(wr.alloc (.cells #[.int .i64 sx,.int .i64 (sx+long)] 60)).cell? ⟨g2,i,none⟩=some (.int .i64 l[i])):=fun i hi=>a0a ((zr _ _).alloc (zq _) _) (HC.out i hi)
      have q1:¬ sx<fr:=by omega
      have q2:¬ til<sx+long:=by omega
      have hz:(wr.alloc (.cells #[.int .i64 sx,.int .i64 (sx+long)] 60)).heap.size=wr.heap.size+1:=by simp
      clear hB hbX hz
      cases hfit:Desk.a1e ts es name a0c [(sx,sx+long)]
      ·have HE:Hid ((l.take (j+1)).foldl (Desk.a3O ts es name a0c long fr til) (-1)=b):=by show _=b;rw[HST.out,HPS.out,if_neg hskip,hfit];rfl
       rw[hfit] at FT1;have hcs:b<0\/(0<=b/\sx<b):=by omega
       clear hskip hfit;rcases hcs with q3|⟨q3,q4⟩
       all_goals
        go_wp2_with fail
        refine FT1.out.mono ?_;rintro e w4 ⟨rfl,hb4⟩;have HB4:=a0b (And.intro (a0j HBX.out hb4 (zq _)) (fun i hi=>a0a hb4 (HCX.out i hi)));clear hb4 FT1
        go_wp2_with fail
        go_roundw
        case rel=>exact⟨j+1,by omega,by go_num,by rw[HE.out],HB4.out.1,HB4.out.2⟩
        case measure=>simp[intOf];omega
      ·have HE:Hid ((l.take (j+1)).foldl (Desk.a3O ts es name a0c long fr til) (-1)=sx):=by show _=sx;rw[HST.out,HPS.out,if_neg hskip,hfit];rfl
       rw[hfit] at FT1;have hcs:b<0\/(0<=b/\sx<b):=by omega
       clear hskip hfit;rcases hcs with q3|⟨q3,q4⟩
       all_goals
        go_wp2_with fail
        refine FT1.out.mono ?_;rintro e w4 ⟨rfl,hb4⟩;have HB4:=a0b (And.intro (a0j HBX.out hb4 (zq _)) (fun i hi=>a0a hb4 (HCX.out i hi)));clear hb4 FT1
        go_wp2_with fail
        go_roundw
        case rel=>exact⟨j+1,by omega,by go_num,by rw[HE.out],HB4.out.1,HB4.out.2⟩
        case measure=>simp[intOf];omega
    ·have e:l.take j=l:=List.take_of_length_le (by omega);have hi2:¬ (j:Int)<(l.length:Int):=by omega
     clear hb
     go_wp2_with fail
     go_ret;exact⟨a1L (by first|rfl|rw[e]),HBW.out⟩
namespace Desk
def a5V(a x:Int):List Int->Int
 |[]=>a
 |s :: r=>if s<=x/\a5V a x r<s then s else a5V a x r
theorem a6N(a x:Int)(h:a<=x):∀ l:List Int,a<=a5V a x l/\a5V a x l<=x/\(a5V a x l=a\/a5V a x l∈l)/\∀ s∈l,s<=x->s<=a5V a x l
 |[]=>⟨Int.le_refl _,h,.inl rfl,by simp⟩
 |s :: r=>by
  obtain⟨h1,h2,h3,h4⟩:=a6N a x h r;simp only[a5V]
  split
  ·rename_i c
   refine⟨by omega,c.1,.inr (by simp),fun t ht k=>?_⟩;rcases List.mem_cons.1 ht with rfl|ht
   ·omega
   ·have:=h4 t ht k;omega
  ·rename_i c
   refine⟨h1,h2,?_,fun t ht k=>?_⟩
   ·rcases h3 with h3|h3
    ·exact .inl h3
    ·exact .inr (by simp[h3])
   ·rcases List.mem_cons.1 ht with rfl|ht
    ·omega
    ·exact h4 t ht k
theorem a5Y(hyx:y<=x)(h:∀ s∈L,s.1<=x->s.1<=y):a0r L x<=a0r L y:=by
 unfold a0r;rw[<- List.countP_eq_length_filter,<- List.countP_eq_length_filter]
 have:List.countP (hasB x) L<=List.countP (hasB y) L:=List.countP_mono_left (fun s hs hb=>by
  simp[hasB] at hb ⊢;have:=h s hs hb.1
  omega)
 omega
def Pos(es:List Ent):Prop:=∀ e∈es,0<=e.a0c
theorem a5Z{name:ByteArray}{x y:Int}(hyx:y<=x):∀ {es:List Ent},Pos es->(∀ s∈a2L name es,s<=x->s<=y)->a0o name x es<=a0o name y es
 |[],_,_=>Int.le_refl _
 |e :: r,hp,h=>by
  have ih:=a5Z (name:=name) hyx (es:=r) (fun z hz=>hp z (by simp[hz])) (fun s hs=>h s (by simp[a2L,hs]));simp only[a0o]
  by_cases hb:ofB name e=true
  ·rw[if_pos hb,if_pos hb];have hs:a0y e.a0k name=true:=by simp[ofB] at hb;exact hb.1
   have hm:a0r e.a0e x<=a0r e.a0e y:=a5Y hyx (fun s hs' hx=>h s.1 (by simp[a2L,hs];exact .inl ⟨s.2,hs'⟩) hx);have hu:=hp e (by simp);have:a0r e.a0e x*e.a0c<=a0r e.a0e y*e.a0c:=Int.mul_le_mul_of_nonneg_right hm hu;omega
  ·rw[if_neg hb,if_neg hb];omega
theorem b7K(hp:Pos es){a:Int}(h:a<=x):∃ y,a<=y/\y<=x/\(y=a\/y∈a2L name es)/\a0o name x es<=a0o name y es:=by
 obtain⟨h1,h2,h3,h4⟩:=a6N a x h (a2L name es);exact⟨_,h1,h2,h3,a5Z h2 hp h4⟩
theorem a4d{a0c:Int}(hp:Pos es)(hu:0<=a0c):
  a1e ts es name a0c L=true↔∀ x,0<a0r L x->a0o name x es+a0r L x*a0c<=a0h name ts:=by
 constructor
 ·intro h x hx
  have hex:∃ s∈L,s.1<=x/\x<s.2:=by
   unfold a0r at hx;have hl:0<(L.filter (hasB x)).length:=by omega
   obtain⟨s,hs⟩:=List.exists_mem_of_length_pos hl;have:=List.mem_filter.1 hs;simp[hasB] at this;exact⟨s,this.1,this.2⟩
  obtain⟨s0,hs0,k1,k2⟩:=hex;obtain⟨h1,h2,h3,h4⟩:=a6N s0.1 x k1 (a2L name es++L.map (·.1));generalize a5V s0.1 x (a2L name es++L.map (·.1))=y at h1 h2 h3 h4
  have hy:y∈a2L name es++L.map (·.1):=by
   rcases h3 with rfl|h3
   ·simp;exact .inr ⟨s0.2,hs0⟩
   ·exact h3
  have ht:=a5Z (name:=name) (es:=es) h2 hp (fun s hs=>h4 s (by simp[hs]));have hm:a0r L x<=a0r L y:=a5Y h2 (fun s hs=>h4 s.1 (by simp;exact .inr ⟨s.2,hs⟩));have hh:=List.all_eq_true.1 h y hy;simp[c4T] at hh;have hx':0<a0r L y:=by omega
  have hmu:a0r L x*a0c<=a0r L y*a0c:=Int.mul_le_mul_of_nonneg_right hm hu;omega
 ·intro h;unfold a1e c4e;rw[List.all_eq_true];intro x _;simp[c4T]
  by_cases hx:0<a0r L x
  ·exact .inr (h x hx)
  ·exact .inl (by omega)
theorem a7i(a b x:Int):a0r [(a,b)] x=if a<=x/\x<b then 1 else 0:=by
 unfold a0r
 by_cases h:a<=x/\x<b
 ·rw[if_pos h];simp[hasB,h.1,h.2]
 ·rw[if_neg h];have:hasB x (a,b)=false:=by simp[hasB];omega
  simp[this]
theorem a6S{a0c a:Int}(hp:Pos es)(hu:0<=a0c):
  a1e ts es name a0c [(a,b)]=true↔∀ x,a<=x->x<b->a0o name x es+a0c<=a0h name ts:=by
 rw[a4d hp hu];constructor
 ·intro h x h1 h2;have:=h x (by rw[a7i,if_pos ⟨h1,h2⟩];omega);rw[a7i,if_pos ⟨h1,h2⟩] at this;omega
 ·intro h x hx;rw[a7i] at hx ⊢
  by_cases c:a<=x/\x<b
  ·rw[if_pos c];have:=h x c.1 c.2;omega
  ·rw[if_neg c] at hx;omega
def a9W(f:Int->Int)(a b m:Int):Prop:=(∀ x,a<=x->x<b->f x<=m)/\∃ x,a<=x/\x<b/\f x=m
theorem a9W.eq{f:Int->Int}{a n:Int}(h:a9W f a b m)(k:a9W f a b n):m=n:=by
 obtain⟨h1,x,h2,h3,h4⟩:=h;obtain⟨k1,y,k2,k3,k4⟩:=k;have:=h1 y k2 k3;have:=k1 x h2 h3;omega
theorem b2U{name:ByteArray}{es:List Ent}{a b:Int}:∀ (l:List Int)(m:Int),
  m<=l.foldl (a2r name es a b) m/\(∀ x∈l,a<x->x<b->a0o name x es<=l.foldl (a2r name es a b) m)/\(l.foldl (a2r name es a b) m=m\/∃ x∈l,a<x/\x<b/\l.foldl (a2r name es a b) m=a0o name x es)
 |[],m=>⟨Int.le_refl _,by simp,.inl rfl⟩
 |x :: l,m=>by
  obtain⟨h1,h2,h3⟩:=b2U (name:=name) (es:=es) (a:=a) (b:=b) l (a2r name es a b m x);simp only[List.foldl_cons];generalize l.foldl (a2r name es a b) (a2r name es a b m x)=R at h1 h2 h3 ⊢
  have hs:(a2r name es a b m x=m/\¬ (a<x/\x<b/\m<a0o name x es))\/(a2r name es a b m x=a0o name x es/\a<x/\x<b/\m<a0o name x es):=by
   unfold a2r
   by_cases c:a<x/\x<b/\m<a0o name x es
   ·rw[if_pos c];exact .inr ⟨rfl,c⟩
   ·rw[if_neg c];exact .inl ⟨rfl,c⟩
  rcases hs with ⟨e,c⟩|⟨e,c⟩
  ·rw[e] at h1 h3;refine⟨h1,fun y hy k1 k2=>?_,?_⟩
   ·rcases List.mem_cons.1 hy with rfl|hy
    ·omega
    ·exact h2 y hy k1 k2
   ·rcases h3 with h3|⟨y,hy,k⟩
    ·exact .inl h3
    ·exact .inr ⟨y,by simp[hy],k⟩
  ·rw[e] at h1 h3;refine⟨by omega,fun y hy k1 k2=>?_,?_⟩
   ·rcases List.mem_cons.1 hy with rfl|hy
    ·omega
    ·exact h2 y hy k1 k2
   ·rcases h3 with h3|⟨y,hy,k⟩
    ·exact .inr ⟨x,by simp,c.1,c.2.1,h3⟩
    ·exact .inr ⟨y,by simp[hy],k⟩
theorem a6H{a:Int}(hp:Pos es)(h:a<b):a9W (fun x=>a0o name x es) a b (a1Q name es a b):=by
 obtain⟨h1,h2,h3⟩:=b2U (name:=name) (es:=es) (a:=a) (b:=b) (a2L name es) (a0o name a es);unfold a1Q;generalize (a2L name es).foldl (a2r name es a b) (a0o name a es)=R at h1 h2 h3 ⊢;refine⟨fun x k1 k2=>?_,?_⟩
 ·obtain⟨y,i1,i2,i3,i4⟩:=b7K (name:=name) hp k1;show a0o name x es<=R
  by_cases e:y=a
  ·subst e;omega
  ·rcases i3 with i3|i3
   ·exact absurd i3 e
   ·have:=h2 y i3 (by omega) (by omega);omega
 ·rcases h3 with h3|⟨x,_,k1,k2,k3⟩
  ·exact⟨a,Int.le_refl _,h,h3.symm⟩
  ·exact⟨x,by omega,k2,k3.symm⟩
theorem c0S{name:ByteArray}{x:Int}:∀ {es:List Ent},Pos es->a0o name x es<a0o name (x-1) es->x∈b5k es
 |[],_,h=>by simp[a0o] at h
 |e :: r,hp,h=>by
  simp only[b5k,List.mem_append,List.mem_map]
  by_cases c:∃ s∈e.a0e,s.2=x
  ·exact .inl c
  ·right;refine c0S (name:=name) (fun z hz=>hp z (by simp[hz])) ?_
   have hm:a0r e.a0e (x-1)<=a0r e.a0e x:=by
    unfold a0r;rw[<- List.countP_eq_length_filter,<- List.countP_eq_length_filter]
    have:List.countP (hasB (x-1)) e.a0e<=List.countP (hasB x) e.a0e:=List.countP_mono_left (fun s hs hb=>by
     simp[hasB] at hb ⊢;have:s.2≠x:=fun e=>c ⟨s,hs,e⟩
     omega)
    omega
   have hu:=hp e (by simp);have hmu:a0r e.a0e (x-1)*e.a0c<=a0r e.a0e x*e.a0c:=Int.mul_le_mul_of_nonneg_right hm hu;simp only[a0o] at h
   split at h <;> omega
def c6U(r:Int):Option Int:=if r<0 then none else some r
theorem a9z{ts:List (ByteArray × Int)}{es:List Ent}{name:ByteArray}{a0c long fr tq:Int}(h0:0<=fr):∀ (l:List Int)(b:Int),-1<=b ->
  (b=-1\/(fr<=b/\b+long<=tq/\a1e ts es name a0c [(b,b+long)]=true)) ->
  let R:=l.foldl (a3O ts es name a0c long fr tq) b
  (R=-1\/(fr<=R/\R+long<=tq/\a1e ts es name a0c [(R,R+long)]=true))/\-1<=R/\(0<=b->0<=R/\R<=b)/\∀ s∈l,fr<=s->s+long<=tq->a1e ts es name a0c [(s,s+long)]=true->0<=R/\R<=s
 |[],b,hb,h=>by
  refine⟨h,hb,fun k=>⟨k,Int.le_refl _⟩,by simp⟩
 |s :: l,b,hb,h=>by
  intro R
  have hs:a3O ts es name a0c long fr tq b s=b/\((s<fr\/tq<s+long\/(0<=b/\b<=s))\/a1e ts es name a0c [(s,s+long)]=false)\/a3O ts es name a0c long fr tq b s=s/\fr<=s/\s+long<=tq/\a1e ts es name a0c [(s,s+long)]=true/\(b<0\/s<b):=by
   unfold a3O
   by_cases c:s<fr\/tq<s+long\/(0<=b/\b<=s)
   ·rw[if_pos c];exact .inl ⟨rfl,.inl c⟩
   ·rw[if_neg c]
    cases hf:a1e ts es name a0c [(s,s+long)]
    ·exact .inl ⟨by simp,.inr rfl⟩
    ·exact .inr ⟨by simp,by omega,by omega,rfl,by omega⟩
  rcases hs with ⟨e,c⟩|⟨e,c1,c2,c3,c4⟩
  ·have ih:=a9z (ts:=ts) (es:=es) (name:=name) (a0c:=a0c) (long:=long) (tq:=tq) h0 l b hb h;have eR:R=l.foldl (a3O ts es name a0c long fr tq) b:=by show List.foldl _ _ _=_;rw[List.foldl_cons,e]
   rw[<- eR] at ih;obtain⟨i1,i2,i3,i4⟩:=ih;refine⟨i1,i2,i3,fun t ht k1 k2 k3=>?_⟩;rcases List.mem_cons.1 ht with rfl|ht
   ·rcases c with c|c
    ·have:=i3 (by omega);omega
    ·rw[k3] at c;cases c
   ·exact i4 t ht k1 k2 k3
  ·have ih:=a9z (ts:=ts) (es:=es) (name:=name) (a0c:=a0c) (long:=long) (tq:=tq) h0 l s (by omega) (.inr ⟨c1,c2,c3⟩);have eR:R=l.foldl (a3O ts es name a0c long fr tq) s:=by show List.foldl _ _ _=_;rw[List.foldl_cons,e]
   rw[<- eR] at ih;obtain⟨i1,i2,i3,i4⟩:=ih;have i3':=i3 (by omega);refine⟨i1,i2,fun k=>by omega,fun t ht k1 k2 k3=>?_⟩;rcases List.mem_cons.1 ht with rfl|ht
   ·exact i3'
   ·exact i4 t ht k1 k2 k3
theorem c2T(P:Int->Prop)(fr:Int):∀ (n:Nat)(s:Int),s=fr+n->P s->∃ r,fr<=r/\r<=s/\P r/\∀ t,fr<=t->t<r->¬ P t:=by
 intro n
 induction n using Nat.strongRecOn with
 |_ n ih =>
  intro s hs hP
  by_cases c:∃ t,fr<=t/\t<s/\P t
  ·obtain⟨t,k1,k2,k3⟩:=c;obtain⟨r,i1,i2,i3,i4⟩:=ih (t-fr).toNat (by omega) t (by omega) k3;exact⟨r,i1,by omega,i3,i4⟩
  ·exact⟨s,by omega,Int.le_refl _,hP,fun t k1 k2 k3=>c ⟨t,k1,k2,k3⟩⟩
theorem c3k{a0c:Int}(hp:Pos es)(hu:0<=a0c)(h0:0<=fr)(_hl:1<=long):
  -1<=a9A ts es name a0c long fr tq/\a8j (fun x=>a0o name x es) fr tq long (a0h name ts-a0c) (c6U (a9A ts es name a0c long fr tq)):=by
 have hr:∀ s,a4X (fun x=>a0o name x es) long (a0h name ts-a0c) s↔a1e ts es name a0c [(s,s+long)]=true:=by
  intro s;rw[a6S hp hu];constructor
  ·intro h x k1 k2;have:=h x k1 k2;have this:a0o name x es<=a0h name ts-a0c:=this;omega
  ·intro h x k1 k2;have:=h x k1 k2;show a0o name x es<=a0h name ts-a0c;omega
 obtain⟨h1,h2,_,h4⟩:=a9z (ts:=ts) (es:=es) (name:=name) (a0c:=a0c) (long:=long) (tq:=tq) h0 (fr :: b5k es) (-1) (Int.le_refl _) (.inl rfl);unfold a9A;generalize (fr :: b5k es).foldl (a3O ts es name a0c long fr tq) (-1)=R at h1 h2 h4 ⊢
 have key:∀ s,fr<=s->s+long<=tq->a1e ts es name a0c [(s,s+long)]=true->0<=R/\R<=s:=by
  intro s k1 k2 k3;obtain⟨r,i1,i2,i3,i4⟩:=c2T (fun s=>a1e ts es name a0c [(s,s+long)]=true) fr (s-fr).toNat s (by omega) k3
  have:r∈fr :: b5k es:=by
   by_cases e:r=fr
   ·simp[e]
   ·have hno:=i4 (r-1) (by omega) (by omega);have hin:=(a6S hp hu).1 i3
    have:∃ x,r-1<=x/\x<r-1+long/\a0h name ts<a0o name x es+a0c:=by
     apply Classical.byContradiction;intro hc;apply hno;apply (a6S hp hu).2;intro x j1 j2
     by_cases d:a0o name x es+a0c<=a0h name ts
     ·exact d
     ·exact absurd ⟨x,j1,j2,by omega⟩ hc
    obtain⟨x,j1,j2,j3⟩:=this
    have ex:x=r-1:=by
     by_cases d:r<=x
     ·have:=hin x d (by omega);omega
     ·omega
    subst ex;have:=hin r (Int.le_refl _) (by omega);exact List.mem_cons_of_mem _ (c0S (name:=name) hp (by omega))
  have:=h4 r this i1 (by omega) i3;omega
 refine⟨h2,?_⟩;unfold c6U
 split
 ·intro s k1 k2 k3;have:=key s k1 k2 ((hr s).1 k3);omega
 ·rcases h1 with h1|⟨i1,i2,i3⟩
  ·omega
  ·refine⟨i1,i2,(hr R).2 i3,fun s k1 k2 k3=>?_⟩;have:=key s k1 (by omega) ((hr s).1 k3);omega
theorem c1G{f:Int->Int}{a:Int}{r q:Option Int}(h:a8j f a b long level r)(k:a8j f a b long level q):r=q:=by
 cases r with
 |none =>
  cases q with
  |none=>rfl
  |some s=>exact absurd k.2.2.1 (h s k.1 k.2.1)
 |some s =>
  cases q with
  |none=>exact absurd h.2.2.1 (k s h.1 h.2.1)
  |some t =>
   obtain⟨h1,h2,h3,h4⟩:=h;obtain⟨k1,k2,k3,k4⟩:=k
   by_cases c:s<t
   ·exact absurd h3 (k4 s h1 c)
   ·by_cases d:t<s
    ·exact absurd k3 (h4 t k1 d)
    ·exact congrArg some (by omega)
theorem b4a{f g:Int->Int}{a:Int}{r:Option Int}(h:a8j f a b long level r)(hfg:∀ x,a<=x->x<b->f x=g x):a8j g a b long level r:=by
 have key:∀ s,a<=s->s+long<=b->(a4X f long level s↔a4X g long level s):=by
  intro s k1 k2;constructor
  ·intro h x i1 i2;rw[<- hfg x (by omega) (by omega)];exact h x i1 i2
  ·intro h x i1 i2;rw[hfg x (by omega) (by omega)];exact h x i1 i2
 cases r with
 |none=>exact fun s k1 k2 k3=>h s k1 k2 ((key s k1 k2).2 k3)
 |some s =>
  obtain⟨h1,h2,h3,h4⟩:=h;exact⟨h1,h2,(key s h1 h2).1 h3,fun t k1 k2 k3=>h4 t k1 k2 ((key t k1 (by omega)).2 k3)⟩
end Desk
namespace Desk
def a1C(name:ByteArray):List Ent->List Bool->Int
 |[],_=>0
 |e :: r,p=>(if ofB name e then e.a0c*cnt e.a0e p else 0)+a1C name r p
theorem a8S(name:ByteArray)(l r:List Ent)(p:List Bool):a1C name (l++r) p=a1C name l p+a1C name r p:=by
 induction l with
 |nil=>simp[a1C]
 |cons e l ih=>simp only[List.cons_append,a1C,ih];omega
theorem b9s(h:ofB name e=true):a1z (a1C name es) e.a0e e.a0c=a1C name (es++[e]):=by
 funext p
 simp only[a1z,a8S,a1C,h,if_true];omega
theorem a7X(h:ofB name e=false):a1C name (es++[e])=a1C name es:=by
 funext p
 simp[a8S,a1C,h]
theorem a7j(name:ByteArray)(p:List Bool):∀ es:List Ent,(∀ e∈es,Small e)->0<=a1C name es p/\a1C name es p<=900*es.length
 |[],_=>by simp[a1C]
 |e :: r,h=>by
  have i:=a7j name p r (fun x hx=>h x (by simp[hx]));have s:=h e (by simp);have b:=b3P e.a0e p;have sl:=s.sl;have c:0<=e.a0c*cnt e.a0e p:=Int.mul_nonneg s.u0 b.1;have d:e.a0c*cnt e.a0e p<=9*100:=Int.mul_le_mul s.u1 (by omega) b.1 (by omega);simp only[a1C,List.length_cons]
  split <;> omega
theorem Small.pos(h:∀ e∈es,Small e):Pos es:=fun e he=>(h e he).u0
def a9U(es:List Ent):Prop:=∀ e∈es,∀ s∈e.a0e,s.1<s.2
theorem a4a(name:ByteArray){x:Int}(h0:0<=x)(h1:x<1048320):∀ es:List Ent,a9U es->b0i (a1C name es) x=a0o name x es
 |[],_=>by
  have:a1C name []=fun _=>0:=by funext p;rfl
  rw[this];exact Lev.b0h 20 0 1048320 x
 |e :: r,h=>by
  have ih:=a4a name h0 h1 r (fun z hz=>h z (by simp[hz]))
  by_cases hb:ofB name e=true
  ·have:a1C name (e :: r)=a1z (a1C name r) e.a0e e.a0c:=by funext p;simp only[a1C,a1z,hb,if_true];omega
   rw[this,b0G _ _ _ _ h0 h1 (h e (by simp)),ih];simp only[a0o,hb,if_true];have:((e.a0e.filter fun s=>decide (s.1<=x) && decide (x<s.2)).length:Int)=a0r e.a0e x:=rfl;rw[this,Int.mul_comm];omega
  ·have hb':ofB name e=false:=by simpa using hb
   have:a1C name (e :: r)=a1C name r:=by funext p;simp[a1C,hb']
   rw[this,ih];simp[a0o,hb']
theorem b8v{a0c u:Int}(hs:∀ e∈es,Small e)(hsp:a9U es)(hL:c1P L)(hu:0<=u)(hun:a0h name ts=a0c):
  a2V (a1z (a1C name es) L u) a0c L=a1e ts es name u L:=by
 have hA:∀ p,0<=a1z (a1C name es) L u p:=fun p=>by
  have:=(a7j name p es hs).1;have:=(b3P L p).1;have:0<=u*cnt L p:=Int.mul_nonneg hu this;unfold a1z;omega
 have hlev:∀ x,0<=x->x<1048320->b0i (a1z (a1C name es) L u) x=a0o name x es+a0r L x*u:=by
  intro x h0 h1;rw[b0G _ _ _ _ h0 h1 (fun s hs=>(hL s hs).2.1),a4a name h0 h1 es hsp];have:((L.filter fun s=>decide (s.1<=x) && decide (x<s.2)).length:Int)=a0r L x:=rfl;rw[this,Int.mul_comm]
 rw[Bool.eq_iff_iff,a4d (Small.pos hs) hu,hun];unfold a2V;rw[List.all_eq_true];constructor
 ·intro h x hx;have hl:0<(L.filter (hasB x)).length:=by unfold a0r at hx;omega
  obtain⟨s,hm⟩:=List.exists_mem_of_length_pos hl;have hm:=List.mem_filter.1 hm;have hb:=hm.2;simp[hasB] at hb;have k:=hL s hm.1;have:=of_decide_eq_true (h s hm.1);have m:=(b1G hA k.1 k.2.1 k.2.2).1 x hb.1 hb.2;rw[hlev x (by omega) (by omega)] at m;omega
 ·intro h s hs';have k:=hL s hs';obtain⟨_,x,m1,m2,m3⟩:=b1G hA k.1 k.2.1 k.2.2;rw[hlev x (by omega) (by omega)] at m3
  have hpos:0<a0r L x:=by
   unfold a0r;have:s∈L.filter (hasB x):=List.mem_filter.2 ⟨hs',by simp[hasB,m1,m2]⟩;have:=List.length_pos_of_mem this;omega
  have:=h x hpos;exact decide_eq_true (by omega)
theorem c0m{a:Int}(hs:∀ e∈es,Small e)(hsp:a9U es)(h0:0<=a)(h1:a<b)(h2:b<=1048320):b4T (a1C name es) (a,b)=a1Q name es a b:=by
 have m:=b1G (A:=a1C name es) (s:=(a,b)) (fun p=>(a7j name p es hs).1) h0 h1 h2;refine a9W.eq (f:=fun x=>a0o name x es) (a:=a) (b:=b) ⟨fun x k1 k2=>?_,?_⟩ (a6H (Small.pos hs) h1)
 ·have:=m.1 x k1 k2;rw[a4a name (by omega) (by have:x<b:=k2;omega) es hsp] at this;exact this
 ·obtain⟨x,k1,k2,k3⟩:=m.2;rw[a4a name (by have:a<=x:=k1;omega) (by have:x<b:=k2;omega) es hsp] at k3;exact⟨x,k1,k2,k3⟩
def c3V:Option Int->Int
 |none=>-1
 |some s=>s
theorem b9G{a0c a:Int}{r:Option Int}(hs:∀ e∈es,Small e)(hsp:a9U es)(h0:0<=a)(h2:b<=1048320)(hu:0<=a0c)(hl:1<=long)(h:a8j (Lev.lev (b1M (a1C name es)) 0 1048320) a b long (a0h name ts-a0c) r):
  a9A ts es name a0c long a b=c3V r:=by
 obtain⟨k1,k2⟩:=c3k (ts:=ts) (es:=es) (name:=name) (a0c:=a0c) (long:=long) (fr:=a) (tq:=b) (Small.pos hs) hu h0 hl;have h':=b4a h (g:=fun x=>a0o name x es) (fun x i1 i2=>a4a name (by omega) (by omega) es hsp);have e:=c1G h' k2;rw[e];generalize a9A ts es name a0c long a b=R at *;unfold c6U
 by_cases c:R<0
 ·rw[if_pos c];show R=-1;omega
 ·rw[if_neg c];rfl
def kept(id:Int)(es:List Ent):List Ent:=es.filter fun e=>e.id != id
def a0Q(e:Ent):Ent:={ e with kind:=1,a0Z:=0 }
def a0C(id:Int)(es:List Ent):List Ent:=es.map fun e=>if e.id=id then a0Q e else e
def Ids(es:List Ent):Prop:=(es.map (·.id)).Pairwise (· < ·)
theorem Ids.cons{r:List Ent}(h:Ids (e :: r)):(∀ z∈r,e.id<z.id)/\Ids r:=by
 unfold Ids at h ⊢;rw[List.map_cons,List.pairwise_cons] at h;exact⟨fun z hz=>h.1 z.id (List.mem_map.2 ⟨z,hz,rfl⟩),h.2⟩
theorem Ids.one(h:Ids es):∀ {x y:Ent},x∈es->y∈es->x.id=y.id->x=y:=by
 induction es with
 |nil=>intro x y hx;simp at hx
 |cons e r ih =>
  intro x y hx hy e1;obtain⟨h1,h2⟩:=h.cons;rcases List.mem_cons.1 hx with hx|hx
  ·rcases List.mem_cons.1 hy with hy|hy
   ·rw[hx,hy]
   ·have:=h1 y hy;rw[hx] at e1;omega
  ·rcases List.mem_cons.1 hy with hy|hy
   ·have:=h1 x hx;rw[hy] at e1;omega
   ·exact ih h2 hx hy e1
theorem a9h(h:∀ e∈es,e.id≠id):kept id es=es:=List.filter_eq_self.2 (fun e he=>by simp[h e he])
theorem a4A{id:Int}:∀ {es:List Ent},(∀ e∈es,e.id≠id)->a0C id es=es
 |[],_=>rfl
 |e :: r,h=>by
  have i:=a4A (id:=id) (es:=r) (fun z hz=>h z (by simp[hz]));unfold a0C at i ⊢;rw[List.map_cons,i,if_neg (h e (by simp))]
theorem b8M(es:List Ent):(a0C id es).map (·.id)=es.map (·.id):=by
 unfold a0C;rw[List.map_map];apply List.map_congr_left;intro e _;show (if e.id=id then a0Q e else e).id=e.id
 split <;> rfl
theorem b1e(h:Ids es):Ids (a0C id es):=by
 unfold Ids at *;rw[b8M];exact h
theorem a8Q{name:ByteArray}{e:Ent}(hb:ofB name e=true):∀ {es:List Ent},Ids es->e∈es->a1z (a1C name es) e.a0e (-e.a0c)=a1C name (kept e.id es)
 |[],_,h=>by simp at h
 |z :: r,hi,h=>by
  obtain⟨h1,h2⟩:=hi.cons
  funext p
  by_cases c:z.id=e.id
  ·have ez:e=z:=hi.one h (by simp) c.symm;subst ez
   have:kept e.id (e :: r)=r:=by
    have k:=a9h (id:=e.id) (es:=r) (fun y hy=>by have:=h1 y hy;omega);unfold kept at k ⊢;rw[List.filter_cons,if_neg (by simp),k]
   rw[this];simp only[a1z,a1C,hb,if_true];rw[Int.neg_mul];omega
  ·have he:e∈r:=by
    rcases List.mem_cons.1 h with rfl|h
    ·exact absurd rfl c
    ·exact h
   have i:=congrFun (a8Q hb h2 he) p
   have:kept e.id (z :: r)=z :: kept e.id r:=by
    unfold kept;rw[List.filter_cons,if_pos (by simpa using c)]
   rw[this];simp only[a1z,a1C] at i ⊢;omega
theorem a4S{name:ByteArray}{id:Int}:∀ {es:List Ent},(∀ e∈es,e.id=id->ofB name e=false)->a1C name (kept id es)=a1C name es
 |[],_=>rfl
 |z :: r,h=>by
  have i:=a4S (name:=name) (id:=id) (es:=r) (fun y hy=>h y (by simp[hy]))
  funext p
  have i:=congrFun i p;unfold kept at i ⊢;rw[List.filter_cons]
  by_cases c:z.id=id
  ·rw[if_neg (by simp[c])];simp only[a1C,h z (by simp) c,Bool.false_eq_true,if_false];rw[i];omega
  ·rw[if_pos (by simpa using c)];simp only[a1C,i]
theorem a3I:ofB name (a0Q e)=a0y e.a0k name:=by
 simp[ofB,a0Q]
theorem a8R{name:ByteArray}{e:Ent}(hn:a0y e.a0k name=true)(hk:e.kind=3):∀ {es:List Ent},Ids es->e∈es->a1z (a1C name es) e.a0e e.a0c=a1C name (a0C e.id es)
 |[],_,h=>by simp at h
 |z :: r,hi,h=>by
  obtain⟨h1,h2⟩:=hi.cons
  funext p
  by_cases c:z.id=e.id
  ·have ez:e=z:=hi.one h (by simp) c.symm;subst ez
   have:a0C e.id (e :: r)=a0Q e :: r:=by
    have k:=a4A (id:=e.id) (es:=r) (fun y hy=>by have:=h1 y hy;omega);unfold a0C at k ⊢;rw[List.map_cons,if_pos rfl,k]
   rw[this];have o1:ofB name e=false:=by simp[ofB,hk]
   simp only[a1z,a1C,o1,a3I,hn,if_true,Bool.false_eq_true,if_false];show 0+a1C name r p+e.a0c*cnt e.a0e p=e.a0c*cnt e.a0e p+a1C name r p;omega
  ·have he:e∈r:=by
    rcases List.mem_cons.1 h with rfl|h
    ·exact absurd rfl c
    ·exact h
   have i:=congrFun (a8R hn hk h2 he) p
   have:a0C e.id (z :: r)=z :: a0C e.id r:=by
    unfold a0C;rw[List.map_cons,if_neg c]
   rw[this];simp only[a1z,a1C] at i ⊢;omega
theorem a3Q{name:ByteArray}{id:Int}:∀ {es:List Ent},(∀ e∈es,e.id=id->a0y e.a0k name=true->e.kind≠3)->a1C name (a0C id es)=a1C name es
 |[],_=>rfl
 |z :: r,h=>by
  have i:=a3Q (name:=name) (id:=id) (es:=r) (fun y hy=>h y (by simp[hy]))
  funext p
  have i:=congrFun i p;unfold a0C at i ⊢;rw[List.map_cons];simp only[a1C,i]
  by_cases c:z.id=id
  ·rw[if_pos c,a3I]
   have e:ofB name z=a0y z.a0k name:=by
    unfold ofB
    cases hs:a0y z.a0k name
    ·rfl
    ·have:=h z (by simp) c hs;simp[this]
   rw[e];rfl
  ·rw[if_neg c]
theorem a4r:e∈kept id es↔e∈es/\e.id≠id:=by simp[kept]
theorem a2b:e∈a0C id es↔(e∈es/\e.id≠id)\/∃ z∈es,z.id=id/\e=a0Q z:=by
 unfold a0C;rw[List.mem_map];constructor
 ·rintro ⟨z,hz,h⟩
  by_cases c:z.id=id
  ·rw[if_pos c] at h;exact .inr ⟨z,hz,c,h.symm⟩
  ·rw[if_neg c] at h;subst h;exact .inl ⟨hz,c⟩
 ·rintro (⟨h1,h2⟩|⟨z,hz,h1,h2⟩)
  ·exact⟨e,h1,if_neg h2⟩
  ·exact⟨z,hz,by rw[if_pos h1,h2]⟩
end Desk
namespace Desk
def a8l(a b:Int)(s:Int × Int):Bool:=decide (s.1<b) && decide (a<s.2)
def a2E(a b:Int):List (Int × Int)->Int
 |[]=>-1
 |s :: r=>if a8l a b s then s.1 else a2E a b r
end Desk
theorem d8X(x:Desk.Ent × Nat × Nat)(fr til:Int)(w:World)(h:RSL w x.2.1 x.1.a0e)(hl:x.1.a0e.length<=100000):
  Calls Tryz.prog 266 #[.agg (c7a x).toArray,.int .i64 fr,.int .i64 til] w fun e w'=>e=.returned (.int .i64 (Desk.a2E fr til x.1.a0e))/\Below w.heap.size w w':=by
 have HS:=a0b h;clear h;simp only[c7a]
 go_enter Tryz.func266,Tryz.ntmps266
 go_wp2_with fail
 have hX:Below w.heap.size w (w.alloc (.cells #[.int .i64 x.1.id,.int .i64 x.1.kind,.string x.1.a0k,.int .i64 x.1.a0c,.slice (some ⟨x.2.1,0,none⟩) x.1.a0e.length x.2.2,.int .i64 x.1.a0Z] 58)):=(zr _ _).alloc (zq _) _;have x4:(w.alloc (.cells #[.int .i64 x.1.id,.int .i64 x.1.kind,.string x.1.a0k,.int .i64 x.1.a0c,.slice (some ⟨x.2.1,0,none⟩) x.1.a0e.length x.2.2,.int .i64 x.1.a0Z] 58)).cell? ⟨w.heap.size,4,none⟩=some (.slice (some ⟨x.2.1,0,none⟩) x.1.a0e.length x.2.2):=by simp
 have SX:=a0b (And.intro (HS.out.later hX) hX);clear hX;generalize (World.alloc w _)=X at x4 SX ⊢;generalize w.heap.size=N at x4 ⊢
 go_loop [7] (fun i=>∃ k:Nat,k<=x.1.a0e.length/\i=.int .i64 k/\Desk.a2E fr til x.1.a0e=Desk.a2E fr til (x.1.a0e.drop k)) (fun i=>x.1.a0e.length-(intOf i).toNat)
 case atStart=>exact⟨0,Nat.zero_le _,rfl,rfl⟩
 case round =>
  obtain⟨k,hk,rfl,hu⟩:=hrel;have HU:=a0b hu;clear hu
  by_cases hlt:k<x.1.a0e.length
  ·obtain⟨c1,c2⟩:=SX.out.1 k hlt;have hi:(k:Int)<(x.1.a0e.length:Int):=by omega
   have ed:Desk.a2E fr til (x.1.a0e.drop k)=if Desk.a8l fr til x.1.a0e[k] then x.1.a0e[k].1 else Desk.a2E fr til (x.1.a0e.drop (k+1)):=by rw[List.drop_eq_getElem_cons hlt];rfl
   have ED:=a0b ed;clear ed
   by_cases q1:x.1.a0e[k].1<til
   ·by_cases q2:fr<x.1.a0e[k].2
    ·have HN:Hid (Desk.a2E fr til x.1.a0e=x.1.a0e[k].1):=by
      show _=_;have hm:Desk.a8l fr til x.1.a0e[k]=true:=by simp[Desk.a8l,q1,q2]
      rw[HU.out,ED.out,hm];rfl
     go_wp2_with fail
     go_ret;exact⟨a1L HN.out.symm,SX.out.2⟩
    ·have HN:Hid (Desk.a2E fr til x.1.a0e=Desk.a2E fr til (x.1.a0e.drop (k+1))):=by
      show _=_;have hm:Desk.a8l fr til x.1.a0e[k]=false:=by simp[Desk.a8l,q2]
      rw[HU.out,ED.out,hm];rfl
     go_wp2_with fail
     go_round
     case rel=>exact⟨k+1,by omega,by go_num,HN.out⟩
     case measure=>simp[intOf];omega
   ·have HN:Hid (Desk.a2E fr til x.1.a0e=Desk.a2E fr til (x.1.a0e.drop (k+1))):=by
     show _=_;have hm:Desk.a8l fr til x.1.a0e[k]=false:=by simp[Desk.a8l,q1]
     rw[HU.out,ED.out,hm];rfl
    go_wp2_with fail
    go_round
    case rel=>exact⟨k+1,by omega,by go_num,HN.out⟩
    case measure=>simp[intOf];omega
  ·have e:x.1.a0e.drop k=[]:=List.drop_eq_nil_of_le (by omega);have HN:Hid (Desk.a2E fr til x.1.a0e=-1):=by show _=_;rw[HU.out,e];rfl
   have hi:¬ (k:Int)<(x.1.a0e.length:Int):=by omega
   clear e
   go_wp2_with fail
   go_ret;exact⟨a1L HN.out.symm,SX.out.2⟩
theorem b6Q:(Tryz.prog.info? 60).map (fun i=>(i.zero,i.size,i.bytes))=some (some (.agg #[.int .i64 0,.int .i64 0]),2,16):=by kernel_rfl
def d0k(s:Int × Int):List Value:=[.int .i64 s.1,.int .i64 s.2]
theorem d3W(L:List (Int × Int)):(L.flatMap d0k).length=L.length*2:=by
 induction L with
 |nil=>rfl
 |cons x xs ih=>simp only[List.flatMap_cons,List.length_append,List.length_cons,ih,d0k,List.length_nil];omega
theorem f5M(L:List (Int × Int)):∀ (j:Nat)(u:Value),(L.flatMap d0k)[j]?=some u->∃ i,∃ h:i<L.length,(j=i*2/\u=.int .i64 L[i].1)\/(j=i*2+1/\u=.int .i64 L[i].2):=by
 intro j u hu
 have hj:j<L.length*2:=by
  have:=(List.getElem?_eq_some_iff.1 hu).1
  rwa [d3W] at this
 have hi:j / 2<L.length:=by omega
 refine⟨j / 2,hi,?_⟩;have hsplit:L=L.take (j / 2)++L[j / 2] :: L.drop (j / 2+1):=by rw[List.getElem_cons_drop,List.take_append_drop]
 have hlen:((L.take (j / 2)).flatMap d0k).length=j / 2*2:=by rw[d3W,List.length_take_of_le (by omega)]
 rw[hsplit,List.flatMap_append,List.flatMap_cons,List.getElem?_append_right (by omega),hlen,List.getElem?_append_left (by simp[d0k];omega)] at hu;rcases (show j % 2=0\/j % 2=1 by omega) with e|e
 ·have e2:j-j / 2*2=0:=by omega
  rw[e2] at hu;simp[d0k] at hu;exact .inl ⟨by omega,hu.symm⟩
 ·have e2:j-j / 2*2=1:=by omega
  rw[e2] at hu;simp[d0k] at hu;exact .inr ⟨by omega,hu.symm⟩
theorem e9c{base:Nat}(h:w.ownsRow base 60 2 (.slice (some ⟨g,0,none⟩) n cap) n (L.flatMap d0k)):n=L.length/\RSL w g L:=by
 have hl:=h.1;rw[d3W] at hl;have hn:n=L.length:=by omega
 refine⟨hn,fun i hi=>?_⟩;rcases h.2 with ⟨h0,_⟩|⟨g',cap',cur,hv,hg,hh,h1,h2,h3,h4⟩
 ·cases h0
 ·cases hv
  have key:∀ (j:Nat) (u:Value),j<2->(d0k L[i])[j]?=some u->w.cell? ⟨g,i*2+j,none⟩=some u:=by
   intro j u hj hu
   have e1:(L.flatMap d0k)[i*2+j]?=some u:=by
    have hsplit:L=L.take i++L[i] :: L.drop (i+1):=by rw[List.getElem_cons_drop,List.take_append_drop]
    rw[hsplit,List.flatMap_append,List.flatMap_cons];have hlen:((L.take i).flatMap d0k).length=i*2:=by rw[d3W,List.length_take_of_le (by omega)]
    rw[List.getElem?_append_right (by omega),hlen,Nat.add_sub_cancel_left,List.getElem?_append_left (by simp[d0k];omega)];exact hu
   have e2:(cur.toList.take (n*2))[i*2+j]?=some u:=by rw[h4];exact e1
   rw[List.getElem?_take_of_lt (by omega)] at e2;simp only[Array.getElem?_toList] at e2;simp[World.cell?,hh,e2]
  exact⟨key 0 _ (by omega) rfl,key 1 _ (by omega) rfl⟩
theorem e0T{b:Nat}{t:TypeId}(h:w.heap[b]?=some (.cells #[c0,c1,c2,c3,c4,c5] t)):w.cell? ⟨b,0,none⟩=some c0:=by simp[World.cell?,h]
theorem e5p{b:Nat}{t:TypeId}(h:w.heap[b]?=some (.cells #[c0,c1,c2,c3,c4,c5] t)):w.cell? ⟨b,1,none⟩=some c1:=by simp[World.cell?,h]
theorem e0S{b:Nat}{t:TypeId}(h:w.heap[b]?=some (.cells #[c0,c1,c2,c3,c4,c5] t)):w.cell? ⟨b,2,none⟩=some c2:=by simp[World.cell?,h]
theorem e0R{b:Nat}{t:TypeId}(h:w.heap[b]?=some (.cells #[c0,c1,c2,c3,c4,c5] t)):w.cell? ⟨b,3,none⟩=some c3:=by simp[World.cell?,h]
theorem e0P{b:Nat}{t:TypeId}(h:w.heap[b]?=some (.cells #[c0,c1,c2,c3,c4,c5] t)):w.cell? ⟨b,4,none⟩=some c4:=by simp[World.cell?,h]
theorem e5o{b:Nat}{t:TypeId}(h:w.heap[b]?=some (.cells #[c0,c1,c2,c3,c4,c5] t)):w.cell? ⟨b,5,none⟩=some c5:=by simp[World.cell?,h]
theorem f0l{b:Nat}{cs:Array Value}{t:TypeId}(h:w.heap[b]?=some (.cells cs t)):∀ o,w.frozen? ⟨b,o,none⟩=false:=fun o=>by simp[World.frozen?,h]
theorem f2v{X:World}{N:Nat}{o1 o2:Obj}(hgrow:X.grownBy w1 (Value.slice none 0 0).ownBlock)(hz:N+1<X.heap.size)(h1:X.heap[N]?=some o1)(h2:X.heap[N+1]?=some o2):w1.heap[N]?=some o1/\w1.heap[N+1]?=some o2 :=
 ⟨(hgrow.block N (by omega) (by simp[Value.ownBlock])).trans h1,(hgrow.block (N+1) hz (by simp[Value.ownBlock])).trans h2⟩
theorem f2w(x:Desk.Ent × Nat × Nat)(w:World)(h:RSL w x.2.1 x.1.a0e)(hl0:0<x.1.a0e.length)(hl:x.1.a0e.length<=1000):
  Calls Tryz.prog 238 #[.agg (c7a x).toArray] w fun e w'=>∃ g cap,e=.returned (.agg (c7a (x.1,g,cap)).toArray)/\RSL w' g x.1.a0e/\w.heap.size<=g/\g<w'.heap.size/\Below w.heap.size w w':=by
 obtain⟨i0,hi0,hz0,hz1,hz2⟩:=info_parts b6Q;have HS:=a0b h;clear h;simp only[c7a]
 go_enter Tryz.func238,Tryz.ntmps238
 go_upto_region 2 with fail
 have hX:Below w.heap.size w ((w.alloc (.cells #[.int .i64 x.1.id,.int .i64 x.1.kind,.string x.1.a0k,.int .i64 x.1.a0c,.slice (some ⟨x.2.1,0,none⟩) x.1.a0e.length x.2.2,.int .i64 x.1.a0Z] 58)).alloc (.cells #[.int .i64 0,.int .i64 0,.string ⟨#[]⟩,.int .i64 0,.slice none 0 0,.int .i64 0] 58)):=((zr _ _).alloc (zq _) _).alloc (by simp) _;have hz:((w.alloc (.cells #[.int .i64 x.1.id,.int .i64 x.1.kind,.string x.1.a0k,.int .i64 x.1.a0c,.slice (some ⟨x.2.1,0,none⟩) x.1.a0e.length x.2.2,.int .i64 x.1.a0Z] 58)).alloc (.cells #[.int .i64 0,.int .i64 0,.string ⟨#[]⟩,.int .i64 0,.slice none 0 0,.int .i64 0] 58)).heap.size=w.heap.size+2:=by simp
 have hnews:∀ j u,(x.1.a0e.flatMap d0k)[j]?=some u->((w.alloc (.cells #[.int .i64 x.1.id,.int .i64 x.1.kind,.string x.1.a0k,.int .i64 x.1.a0c,.slice (some ⟨x.2.1,0,none⟩) x.1.a0e.length x.2.2,.int .i64 x.1.a0Z] 58)).alloc (.cells #[.int .i64 0,.int .i64 0,.string ⟨#[]⟩,.int .i64 0,.slice none 0 0,.int .i64 0] 58)).cell? ((⟨x.2.1,0,none⟩:Addr).add j)=some u:=by
  intro j u hu
  have ea:∀ j:Nat,((⟨x.2.1,0,none⟩:Addr).add j)=⟨x.2.1,j,none⟩:=by
   intro j;unfold Addr.add;split
   ·rename_i h;subst h;rfl
   ·simp
  rw[ea];obtain⟨i,hi,(⟨rfl,rfl⟩|⟨rfl,rfl⟩)⟩:=f5M _ j u hu
  ·exact a0a hX (HS.out i hi).1
  ·exact a0a hX (HS.out i hi).2
 have a1:((w.alloc (.cells #[.int .i64 x.1.id,.int .i64 x.1.kind,.string x.1.a0k,.int .i64 x.1.a0c,.slice (some ⟨x.2.1,0,none⟩) x.1.a0e.length x.2.2,.int .i64 x.1.a0Z] 58)).alloc (.cells #[.int .i64 0,.int .i64 0,.string ⟨#[]⟩,.int .i64 0,.slice none 0 0,.int .i64 0] 58)).heap[w.heap.size]?=some (.cells #[.int .i64 x.1.id,.int .i64 x.1.kind,.string x.1.a0k,.int .i64 x.1.a0c,.slice (some ⟨x.2.1,0,none⟩) x.1.a0e.length x.2.2,.int .i64 x.1.a0Z] 58) :=
  (Below.heap_alloc _ _ _ (by simp)).trans (a0p _ _)
 have a2:((w.alloc (.cells #[.int .i64 x.1.id,.int .i64 x.1.kind,.string x.1.a0k,.int .i64 x.1.a0c,.slice (some ⟨x.2.1,0,none⟩) x.1.a0e.length x.2.2,.int .i64 x.1.a0Z] 58)).alloc (.cells #[.int .i64 0,.int .i64 0,.string ⟨#[]⟩,.int .i64 0,.slice none 0 0,.int .i64 0] 58)).heap[w.heap.size+1]?=some (.cells #[.int .i64 0,.int .i64 0,.string ⟨#[]⟩,.int .i64 0,.slice none 0 0,.int .i64 0] 58):=by
  have:=a0p (w.alloc (.cells #[.int .i64 x.1.id,.int .i64 x.1.kind,.string x.1.a0k,.int .i64 x.1.a0c,.slice (some ⟨x.2.1,0,none⟩) x.1.a0e.length x.2.2,.int .i64 x.1.a0Z] 58)) (.cells #[.int .i64 0,.int .i64 0,.string ⟨#[]⟩,.int .i64 0,.slice none 0 0,.int .i64 0] 58)
  rwa [World.size_alloc] at this
 have NW:=a0b hnews;have HX:=a0b (And.intro hX (And.intro hz (And.intro a1 a2)));have x4:((w.alloc (.cells #[.int .i64 x.1.id,.int .i64 x.1.kind,.string x.1.a0k,.int .i64 x.1.a0c,.slice (some ⟨x.2.1,0,none⟩) x.1.a0e.length x.2.2,.int .i64 x.1.a0Z] 58)).alloc (.cells #[.int .i64 0,.int .i64 0,.string ⟨#[]⟩,.int .i64 0,.slice none 0 0,.int .i64 0] 58)).cell? ⟨w.heap.size,4,none⟩=some (.slice (some ⟨x.2.1,0,none⟩) x.1.a0e.length x.2.2):=by simp[World.cell?,a1]
 clear hX hz hnews a1 a2;generalize ((w.alloc (.cells #[.int .i64 x.1.id,.int .i64 x.1.kind,.string x.1.a0k,.int .i64 x.1.a0c,.slice (some ⟨x.2.1,0,none⟩) x.1.a0e.length x.2.2,.int .i64 x.1.a0Z] 58)).alloc (.cells #[.int .i64 0,.int .i64 0,.string ⟨#[]⟩,.int .i64 0,.slice none 0 0,.int .i64 0] 58))=X at NW HX x4 ⊢
 go_wp2_with (first
  |(at_builtin;refine wpList_append_lies _ rfl _ _ 56 rfl w.heap.size 60 i0 _ 2 16 Tryz.underlying56 hi0 hz0 hz1 hz2 rfl (by decide) (.slice none 0 0) 0 [] rfl (World.ownsRow_nil _ _ _ _) ⟨x.2.1,0,none⟩ x.1.a0e.length x.2.2 (x.1.a0e.flatMap d0k) rfl (d3W _) NW.out (by intro u hu;obtain⟨s,_,hs⟩:=List.mem_flatMap.1 hu;simp[d0k] at hs;rcases hs with rfl|rfl <;> rfl) hl0 (by unfold maxLen;omega) (by omega) (by have:=HX.out.2.1;omega) X.heap.size rfl ?_;intro g cap w1 ho1 hgrow hat hlt;obtain⟨e1,e2⟩:=f2v hgrow (by have:=HX.out.2.1;omega) HX.out.2.2.1 HX.out.2.2.2;have b0:=e0T e1;have b1:=e5p e1;have b2:=e0S e1;have b3:=e0R e1;have b5:=e5o e1;have b4:=e0P e1;have g4:=f0l e1;have r0:=e0T e2;have r1:=e5p e2;have r2:=e0S e2;have r3:=e0R e2;have r4:=e0P e2;have r5:=e5o e2;have rf:=f0l e2))
 have hg:g=X.heap.size:=by
  rcases hat with e|e
  ·simp[Value.ownBlock] at e
  ·exact e
 have hz:=HX.out.2.1;have ho1':w1.ownsRow w.heap.size 60 2 (.slice (some ⟨g,0,none⟩) x.1.a0e.length cap) x.1.a0e.length (x.1.a0e.flatMap d0k):=by simpa using ho1
 have hbw:Below w.heap.size w w1:=HX.out.1.grown hgrow HX.out.1.size (fun k hk=>by simp[Value.ownBlock] at hk)
 have hof:Off [w.heap.size,w.heap.size+1] w1 (((((((w1.setCell ⟨w.heap.size,4,none⟩ (.slice (some ⟨g,0,none⟩) x.1.a0e.length cap)).setCell ⟨w.heap.size+1,0,none⟩ (.int .i64 x.1.id)).setCell ⟨w.heap.size+1,1,none⟩ (.int .i64 x.1.kind)).setCell ⟨w.heap.size+1,2,none⟩ (.string x.1.a0k)).setCell ⟨w.heap.size+1,3,none⟩ (.int .i64 x.1.a0c)).setCell ⟨w.heap.size+1,4,none⟩ (.slice (some ⟨g,0,none⟩) x.1.a0e.length cap)).setCell ⟨w.heap.size+1,5,none⟩ (.int .i64 x.1.a0Z)) :=
  (((((((Off.refl _ w1).setCell (.inl (by simp)) _ _).setCell (.inl (by simp)) _ _).setCell (.inl (by simp)) _ _).setCell (.inl (by simp)) _ _).setCell (.inl (by simp)) _ _).setCell (.inl (by simp)) _ _).setCell (.inl (by simp)) _ _
 have hbf:Below w.heap.size w (((((((w1.setCell ⟨w.heap.size,4,none⟩ (.slice (some ⟨g,0,none⟩) x.1.a0e.length cap)).setCell ⟨w.heap.size+1,0,none⟩ (.int .i64 x.1.id)).setCell ⟨w.heap.size+1,1,none⟩ (.int .i64 x.1.kind)).setCell ⟨w.heap.size+1,2,none⟩ (.string x.1.a0k)).setCell ⟨w.heap.size+1,3,none⟩ (.int .i64 x.1.a0c)).setCell ⟨w.heap.size+1,4,none⟩ (.slice (some ⟨g,0,none⟩) x.1.a0e.length cap)).setCell ⟨w.heap.size+1,5,none⟩ (.int .i64 x.1.a0Z)) :=
  ⟨hof.os.trans hbw.os,hof.tape.trans hbw.tape,hof.output.trans hbw.output,Nat.le_trans hbw.size hof.size,fun k hk=>(hof.block k (zL hk hbw.size) (by simp;omega)).trans (hbw.block k hk)⟩
 refine bodyPost_ret (v:=.agg #[.int .i64 x.1.id,.int .i64 x.1.kind,.string x.1.a0k,.int .i64 x.1.a0c,.slice (some ⟨g,0,none⟩) x.1.a0e.length cap,.int .i64 x.1.a0Z]) (by simp[results,Tryz.results238,go_sem,r0,r1,r2,r3,r4,r5]) rfl ⟨g,cap,rfl,(e9c ho1').2.off hof (by simp;omega),by omega,Nat.lt_of_lt_of_le hlt hof.size,hbf⟩
namespace Desk
def b7U(name:ByteArray)(a b:Int)(e:Ent):Bool:=ofB name e && decide (0<=a2E a b e.a0e)
end Desk
structure d9z(w wx:World)(v:Value)(ys:List (Desk.Ent × Nat × Nat)):Prop where
 own:wx.ownsRow w.heap.size 58 6 v ys.length (ys.flatMap c7a)
 sl:∀ y∈ys,RSL wx y.2.1 y.1.a0e/\w.heap.size<=y.2.1/\y.2.1<wx.heap.size/\v.ownBlock≠some y.2.1
 bw:Below w.heap.size w wx
theorem d9z.later{wx wy:World}{ys:List (Desk.Ent × Nat × Nat)}(h:d9z w wx v ys)(k:Below wx.heap.size wx wy):d9z w wy v ys :=
 ⟨a1g h.own k,fun y hy=>⟨(h.sl y hy).1.later k,(h.sl y hy).2.1,Nat.lt_of_lt_of_le (h.sl y hy).2.2.1 k.size,(h.sl y hy).2.2.2⟩,a0j h.bw k (zq _)⟩
namespace Rank
def before(fs:List Int)(k i:Nat):Bool:=decide (fs.getD k 0<fs.getD i 0) || (decide (fs.getD k 0=fs.getD i 0) && decide (k<i))
def upto(fs:List Int)(i n:Nat):Nat:=((List.range n).filter (fun k=>before fs k i)).length
def e3Z(fs:List Int)(i:Nat):Nat:=upto fs i fs.length
theorem d3x(fs:List Int)(i n:Nat):upto fs i (n+1)=upto fs i n+if before fs n i then 1 else 0:=by
 unfold upto;rw[List.range_succ,List.filter_append,List.length_append]
 cases h:before fs n i <;> simp[h]
theorem d6b(fs:List Int)(i:Nat):before fs i i=false:=by simp[before]
theorem e5t{a b c:Nat}(h:before fs a b=true)(k:before fs b c=true):before fs a c=true:=by
 simp[before] at *;omega
theorem d7p(fs:List Int){a b:Nat}(h:a≠b):before fs a b=true\/before fs b a=true:=by
 simp[before];omega
theorem e5Z(fs:List Int)(i:Nat):∀ n,upto fs i n<=n
 |0=>by simp[upto]
 |n+1=>by have:=e5Z fs i n;rw[d3x];split <;> omega
theorem f2U(fs:List Int){i:Nat}:∀ {n},i<n->upto fs i n<n
 |0,h=>by omega
 |n+1,h=>by
  rw[d3x]
  by_cases e:i=n
  ·subst e;rw[d6b];have:=e5Z fs i i;simp;omega
  ·have:=f2U fs (i:=i) (n:=n) (by omega)
   split <;> omega
theorem e6F(fs:List Int)(h:i<fs.length):e3Z fs i<fs.length:=f2U fs h
theorem e3f{fs:List Int}{i j:Nat}(h:before fs i j=true):∀ n,upto fs i n+(if i<n then 1 else 0)<=upto fs j n
 |0=>by simp[upto]
 |n+1=>by
  have ih:=e3f h n;rw[d3x,d3x]
  by_cases e:n=i
  ·subst e;rw[d6b,h];simp at ih ⊢;omega
  ·have e1:(if i<n+1 then 1 else 0:Nat)=(if i<n then 1 else 0):=by
    by_cases h1:i<n
    ·rw[if_pos h1,if_pos (by omega)]
    ·rw[if_neg h1,if_neg (by omega)]
   rw[e1];generalize (if i<n then 1 else 0:Nat)=q at ih ⊢
   cases hb:before fs n i
   ·simp only[Bool.false_eq_true,if_false]
    split <;> omega
   ·rw[e5t hb h];simp only[if_true];omega
theorem d8o(hi:i<fs.length)(h:before fs i j=true):e3Z fs i<e3Z fs j:=by
 have:=e3f h fs.length;rw[if_pos hi] at this;exact this
theorem e1x(hi:i<fs.length)(hj:j<fs.length)(h:e3Z fs i=e3Z fs j):i=j:=by
 by_cases e:i=j
 ·exact e
 ·rcases d7p fs e with h1|h1
  ·have:=d8o hi h1;omega
  ·have:=d8o hj h1;omega
end Rank
theorem f4j:∀ (n:Nat)(l:List Nat),l.Nodup->(∀ x∈l,x<n)->l.length<=n
 |0,l,_,h=>by
  cases l with
  |nil=>simp
  |cons x l=>have:=h x (by simp);omega
 |n+1,l,hd,h=>by
  by_cases c:n∈l
  ·have h1:(l.erase n).length<=n:=f4j n (l.erase n) (hd.erase n) (fun x hx=>by
    have h2:=List.mem_of_mem_erase hx;have h3:=h x h2;have h4:x≠n:=fun e=>by subst e;exact hd.not_mem_erase hx
    omega)
   rw[List.length_erase_of_mem c] at h1;omega
  ·have:=f4j n l hd (fun x hx=>by
    have h3:=h x hx;have h4:x≠n:=fun e=>by subst e;exact c hx
    omega)
   omega
theorem f1p{l:List Nat}(hd:l.Nodup)(h:∀ x∈l,x<n)(hl:l.length=n):∀ k,k<n->k∈l:=by
 intro k hk;apply Classical.byContradiction;intro c
 have:=f4j n (k :: l) (List.nodup_cons.2 ⟨c,hd⟩) (fun x hx=>by
  rcases List.mem_cons.1 hx with rfl|hx
  ·exact hk
  ·exact h x hx)
 simp at this;omega
namespace Rank
theorem d5F(fs:List Int){k:Nat}(hk:k<fs.length):∃ i,i<fs.length/\e3Z fs i=k:=by
 have hd:((List.range fs.length).map (e3Z fs)).Nodup:=by
  unfold List.Nodup;rw[List.pairwise_map];refine List.Pairwise.imp_of_mem ?_ (List.nodup_range (n:=fs.length));intro i j hi hj hne e;exact hne (e1x (List.mem_range.1 hi) (List.mem_range.1 hj) e)
 have:=f1p hd (fun x hx=>by
  obtain⟨i,hi,rfl⟩:=List.mem_map.1 hx
  exact e6F fs (List.mem_range.1 hi)) (by simp) k hk
 obtain⟨i,hi,e⟩:=List.mem_map.1 this;exact⟨i,List.mem_range.1 hi,e⟩
end Rank
namespace Desk
def ltE(a b:Int)(x y:Ent):Prop:=a2E a b x.a0e<a2E a b y.a0e\/(a2E a b x.a0e=a2E a b y.a0e/\x.id<y.id)
theorem b8e(a b:Int)(x:Ent):¬ ltE a b x x:=by unfold ltE;omega
theorem b3b(a b:Int)(x y z:Ent)(h:ltE a b x y)(k:ltE a b y z):ltE a b x z:=by unfold ltE at *;omega
def d3X(a b:Int)(l:List Ent):List Int:=l.map fun e=>a2E a b e.a0e
theorem d6H{a:Int}{l:List Ent}(h:i<l.length):(d3X a b l).getD i 0=a2E a b l[i].a0e:=by
 simp[d3X,List.getD,h]
theorem f3Z{a:Int}{l out:List Ent}(hid:Ids l)(hlen:out.length=l.length)(h:∀ (i:Nat)(hi:i<l.length),out[Rank.e3Z (d3X a b l) i]?=some l[i]):out.Pairwise (ltE a b)/\∀ e,e∈out↔e∈l:=by
 have hf:(d3X a b l).length=l.length:=by simp[d3X]
 have onto:∀ (k:Nat),k<out.length->∃ (i:Nat) (hi:i<l.length),Rank.e3Z (d3X a b l) i=k/\out[k]?=some l[i]:=by
  intro k hk;obtain⟨i,hi,e⟩:=Rank.d5F (d3X a b l) (k:=k) (by omega);rw[hf] at hi;exact⟨i,hi,e,by rw[<- e];exact h i hi⟩
 refine⟨?_,fun e=>⟨fun he=>?_,fun he=>?_⟩⟩
 ·rw[List.pairwise_iff_getElem];intro p q hp hq hpq;obtain⟨i,hi,e1,e2⟩:=onto p hp;obtain⟨j,hj,e3,e4⟩:=onto q hq;rw[List.getElem?_eq_getElem hp] at e2;rw[List.getElem?_eq_getElem hq] at e4;rw[Option.some.inj e2,Option.some.inj e4];have hne:i≠j:=fun e=>by subst e;omega
  rcases Rank.d7p (d3X a b l) hne with hb|hb
  ·unfold Rank.before at hb;rw[d6H hi,d6H hj] at hb;simp at hb;rcases hb with hb|⟨hb,hc⟩
   ·exact .inl hb
   ·refine .inr ⟨hb,?_⟩;have:=List.pairwise_iff_getElem.1 hid i j (by simpa using hi) (by simpa using hj) hc
    simpa using this
  ·have:=Rank.d8o (fs:=d3X a b l) (by omega) hb;omega
 ·obtain⟨k,hk,rfl⟩:=List.getElem_of_mem he;obtain⟨i,hi,_,e2⟩:=onto k hk;rw[List.getElem?_eq_getElem hk] at e2;rw[Option.some.inj e2];exact zg hi
 ·obtain⟨i,hi,rfl⟩:=List.getElem_of_mem he;exact List.mem_of_getElem? (h i hi)
def a2c(L:List (Int × Int)):Prop:=L.Pairwise fun s t=>s.1<t.1
theorem a9y{a b:Int}:∀ {L:List (Int × Int)},a2c L->(∃ s∈L,a8l a b s=true)->(∃ s∈L,a8l a b s=true/\s.1=a2E a b L)/\∀ t∈L,a8l a b t=true->a2E a b L<=t.1
 |[],_,h=>by obtain⟨s,hs,_⟩:=h;simp at hs
 |s :: r,hr,h=>by
  unfold a2c at hr;rw[List.pairwise_cons] at hr;simp only[a2E]
  by_cases c:a8l a b s=true
  ·rw[if_pos c];refine⟨⟨s,by simp,c,rfl⟩,fun t ht _=>?_⟩;rcases List.mem_cons.1 ht with rfl|ht
   ·omega
   ·have:=hr.1 t ht;omega
  ·rw[if_neg c]
   have h':∃ s∈r,a8l a b s=true:=by
    obtain⟨t,ht,k⟩:=h;rcases List.mem_cons.1 ht with rfl|ht
    ·exact absurd k c
    ·exact⟨t,ht,k⟩
   obtain⟨⟨t,k1,k2,k3⟩,k4⟩:=a9y (a:=a) (b:=b) (L:=r) hr.2 h';refine⟨⟨t,by simp[k1],k2,k3⟩,fun u hu hm=>?_⟩;rcases List.mem_cons.1 hu with rfl|hu
   ·exact absurd hm c
   ·exact k4 u hu hm
theorem a9x{a b:Int}:∀ {L:List (Int × Int)},(∀ s∈L,a8l a b s=false)->a2E a b L=-1
 |[],_=>rfl
 |s :: r,h=>by
  simp only[a2E];rw[if_neg (by rw[h s (by simp)];simp)];exact a9x (fun t ht=>h t (by simp[ht]))
theorem a7J{a:Int}(hr:a2c L)(h0:∀ s∈L,0<=s.1):0<=a2E a b L↔∃ s∈L,a8l a b s=true:=by
 constructor
 ·intro h;apply Classical.byContradiction;intro c
  have:a2E a b L=-1:=a9x (fun s hs=>by
   cases hb:a8l a b s
   ·rfl
   ·exact absurd ⟨s,hs,hb⟩ c)
  omega
 ·intro h;obtain⟨⟨s,k1,_,k3⟩,_⟩:=a9y hr h;have:=h0 s k1;omega
def a5s(acc:List Avl.It)(z:Avl.It):List Avl.It:=if acc.any fun u=>decide (u.n=z.n) then acc else acc++[z]
def uniq(M:List Avl.It):List Avl.It:=M.foldl a5s []
theorem a6u(M:List Avl.It)(z:Avl.It):uniq (M++[z])=a5s (uniq M) z:=by unfold uniq;rw[List.foldl_append];rfl
theorem c4t:∀ (n:Nat)(M:List Avl.It),M.length=n->Avl.Ord M->Avl.Ord (uniq M)/\(∀ u∈uniq M,u∈M)/\(∀ z∈M,∃ u∈uniq M,u.n=z.n/\(u=z\/Avl.lt u z))/\((uniq M).map (·.n)).Nodup:=by
 intro n
 induction n with
 |zero =>
  intro M hM _;rw[List.length_eq_zero_iff.1 hM];exact⟨List.Pairwise.nil,by simp[uniq],by simp,by simp[uniq]⟩
 |succ n ih =>
  intro M hM hO;obtain⟨K,z,rfl⟩:∃ K z,M=K++[z]:=⟨M.dropLast,M.getLast (by intro e;simp[e] at hM),(List.dropLast_concat_getLast _).symm⟩;unfold Avl.Ord at hO;rw[List.pairwise_append] at hO;obtain⟨i1,i2,i3,i4⟩:=ih K (by simpa using hM) hO.1;rw[a6u];unfold a5s
  by_cases c:((uniq K).any fun u=>decide (u.n=z.n))=true
  ·rw[if_pos c];obtain⟨u,hu,hc⟩:=List.any_eq_true.1 c;refine⟨i1,fun u hu=>by simp[i2 u hu],fun y hy=>?_,i4⟩;rcases List.mem_append.1 hy with hy|hy
   ·exact i3 y hy
   ·have:y=z:=by simpa using hy
    subst this;exact⟨u,hu,by simpa using hc,.inr (hO.2.2 u (i2 u hu) y (by simp))⟩
  ·rw[if_neg c];have hno:∀ u∈uniq K,u.n≠z.n:=fun u hu e=>c (List.any_eq_true.2 ⟨u,hu,by simp[e]⟩)
   refine⟨?_,fun u hu=>?_,fun y hy=>?_,?_⟩
   ·unfold Avl.Ord;rw[List.pairwise_append]
    exact⟨i1,by simp,fun u hu y hy=>by
     have:y=z:=by simpa using hy
     subst this
     exact hO.2.2 u (i2 u hu) y (by simp)⟩
   ·rcases List.mem_append.1 hu with hu|hu
    ·simp[i2 u hu]
    ·simp at hu;simp[hu]
   ·rcases List.mem_append.1 hy with hy|hy
    ·obtain⟨u,hu,k⟩:=i3 y hy;exact⟨u,by simp[hu],k⟩
    ·have:y=z:=by simpa using hy
     subst this;exact⟨y,by simp,rfl,.inl rfl⟩
   ·rw[List.map_append,List.nodup_append];refine⟨i4,by simp,fun x hx y hy e=>?_⟩;obtain⟨u,hu,rfl⟩:=List.mem_map.1 hx;simp at hy;exact hno u hu (by rw[e,hy])
def a2e(name:ByteArray)(es:List Ent)(at_:Int->Nat)(T:Avl.S):Prop :=
 Avl.Ord (Avl.a0w T)/\∀ z,z∈Avl.a0w T↔∃ e∈es,ofB name e=true/\∃ s∈e.a0e,z=⟨s.1,s.2,e.id,at_ e.id⟩
theorem c4u{at_:Int->Nat}{T:Avl.S}{a:Int}(h:a2e name es at_ T)(hid:Ids es)(hr:∀ e∈es,a2c e.a0e)(h0:∀ e∈es,∀ s∈e.a0e,0<=s.1){ys:List Ent}(hl:ys.length=(uniq (Avl.meet a b T)).length)(hy:∀ (i:Nat)(hi:i<ys.length),ys[i]∈es/\ys[i].id=((uniq (Avl.meet a b T))[i]'(by omega)).n):
  ys.Pairwise (ltE a b)/\∀ e,e∈ys↔e∈es.filter (b7U name a b):=by
 have hM:=Avl.b1J a b T h.1;have hO:Avl.Ord (Avl.meet a b T):=by rw[hM];exact Avl.b0C _ h.1
 obtain⟨u1,u2,u3,u4⟩:=c4t _ (Avl.meet a b T) rfl hO
 have inM:∀ z,z∈Avl.meet a b T↔∃ e∈es,ofB name e=true/\∃ s∈e.a0e,a8l a b s=true/\z=⟨s.1,s.2,e.id,at_ e.id⟩:=by
  intro z;rw[hM,List.mem_filter,h.2];constructor
  ·rintro ⟨⟨e,k1,k2,s,k3,rfl⟩,k4⟩;exact⟨e,k1,k2,s,k3,k4,rfl⟩
  ·rintro ⟨e,k1,k2,s,k3,k4,rfl⟩;exact⟨⟨e,k1,k2,s,k3,rfl⟩,k4⟩
 -- each item that is kept stands at its entry's first
 have fst:∀ u∈uniq (Avl.meet a b T),∀ e∈es,e.id=u.n->ofB name e=true/\u.f=a2E a b e.a0e/\∃ s∈e.a0e,a8l a b s=true:=by
  intro u hu e he hn;obtain⟨e',k1,k2,s,k3,k4,rfl⟩:=(inM u).1 (u2 u hu);have:e=e':=hid.one he k1 hn;subst this;refine⟨k2,?_,s,k3,k4⟩;obtain⟨⟨t,t1,t2,t3⟩,t4⟩:=a9y (hr e he) ⟨s,k3,k4⟩;have hle:=t4 s k3 k4;obtain⟨u',hu',m1,m2⟩:=u3 ⟨t.1,t.2,e.id,at_ e.id⟩ ((inM _).2 ⟨e,he,k2,t,t1,t2,rfl⟩)
  have same:u'=⟨s.1,s.2,e.id,at_ e.id⟩:=by
   have hnd:=u4;unfold List.Nodup at hnd;rw[List.pairwise_map] at hnd;apply Classical.byContradiction;intro hne;obtain⟨i,hi,ei⟩:=List.getElem_of_mem hu';obtain⟨j,hj,ej⟩:=List.getElem_of_mem hu;have hij:i≠j:=fun e=>by subst e;exact hne (ei.symm.trans ej)
   rcases Nat.lt_or_gt_of_ne hij with c|c
   ·have:=List.pairwise_iff_getElem.1 hnd i j hi hj c;rw[ei,ej] at this;exact this m1
   ·have:=List.pairwise_iff_getElem.1 hnd j i hj hi c;rw[ei,ej] at this;exact this m1.symm
  subst same;show s.1=_;rcases m2 with m2|m2
  ·have:=congrArg Avl.It.f m2;simp at this;omega
  ·unfold Avl.lt at m2;simp at m2;omega
 have sel:∀ u∈uniq (Avl.meet a b T),∀ e∈es,e.id=u.n->e∈es.filter (b7U name a b):=by
  intro u hu e he hn;obtain⟨k1,_,k3⟩:=fst u hu e he hn;exact List.mem_filter.2 ⟨he,by simp[b7U,k1,(a7J (hr e he) (h0 e he)).2 k3]⟩
 refine⟨?_,fun e=>⟨fun he=>?_,fun he=>?_⟩⟩
 ·rw[List.pairwise_iff_getElem];intro i j hi hj hij;have o:=List.pairwise_iff_getElem.1 u1 i j (by omega) (by omega) hij;obtain⟨a1,a2⟩:=hy i hi;obtain⟨b1,b2⟩:=hy j hj;have f1:=(fst _ (zg (by omega)) _ a1 a2).2.1;have f2:=(fst _ (zg (by omega)) _ b1 b2).2.1;unfold Avl.lt at o;unfold ltE;rw[<- f1,<- f2,a2,b2];exact o
 ·obtain⟨i,hi,rfl⟩:=List.getElem_of_mem he;obtain⟨a1,a2⟩:=hy i hi;exact sel _ (zg (by omega)) _ a1 a2
 ·obtain⟨he1,he2⟩:=List.mem_filter.1 he;simp only[b7U,Bool.and_eq_true,decide_eq_true_eq] at he2;obtain⟨s,s1,s2⟩:=(a7J (hr e he1) (h0 e he1)).1 he2.2;obtain⟨u,hu,m1,_⟩:=u3 _ ((inM _).2 ⟨e,he1,he2.1,s,s1,s2,rfl⟩);obtain⟨i,hi,ei⟩:=List.getElem_of_mem hu;obtain⟨a1,a2⟩:=hy i (by omega);have:ys[i]'(by omega)=e:=hid.one a1 he1 (by rw[a2,ei];exact m1);rw[<- this];exact zg _
theorem a5J(p:Ent->Bool)(h:Ids es):Ids (es.filter p):=by
 unfold Ids at *;exact List.Pairwise.sublist (List.Sublist.map _ List.filter_sublist) h
end Desk
namespace Desk
theorem a8W{a b:ByteArray}:a0y a b=true↔a.toList=b.toList:=by simp[a0y]
theorem a2u(a:ByteArray):a0y a a=true:=a8W.2 rfl
theorem a8X{a b c:ByteArray}(h:a0y a b=true):a0y c a=a0y c b:=by
 unfold a0y;rw[a8W.1 h]
def c0F(a b:Int)(x:Ent):List Ent->List Ent
 |[]=>[x]
 |y :: r=>if a2E a b x.a0e<a2E a b y.a0e\/(a2E a b x.a0e=a2E a b y.a0e/\x.id<y.id) then x :: y :: r else y :: c0F a b x r
def b2J(a b:Int):List Ent->List Ent
 |[]=>[]
 |x :: r=>c0F a b x (b2J a b r)
theorem b1R{a b:Int}{x z:Ent}:∀ {l:List Ent},z∈c0F a b x l↔z=x\/z∈l
 |[]=>by simp[c0F]
 |y :: r=>by
  simp only[c0F]
  split
  ·simp
  ·rw[List.mem_cons,b1R,List.mem_cons];constructor
   ·rintro (h|h|h)
    ·exact .inr (.inl h)
    ·exact .inl h
    ·exact .inr (.inr h)
   ·rintro (h|h|h)
    ·exact .inr (.inl h)
    ·exact .inl h
    ·exact .inr (.inr h)
theorem a4U{a b:Int}{z:Ent}:∀ {l:List Ent},z∈b2J a b l↔z∈l
 |[]=>by simp[b2J]
 |x :: r=>by rw[b2J,b1R,a4U,List.mem_cons]
theorem c0E{a b:Int}{x:Ent}:∀ {l:List Ent},l.Pairwise (ltE a b)->(∀ z∈l,z.id≠x.id)->(c0F a b x l).Pairwise (ltE a b)
 |[],_,_=>by simp[c0F]
 |y :: r,h,hn=>by
  rw[List.pairwise_cons] at h;simp only[c0F]
  split
  ·rename_i c
   refine List.pairwise_cons.2 ⟨fun z hz=>?_,List.pairwise_cons.2 h⟩;rcases List.mem_cons.1 hz with rfl|hz
   ·exact c
   ·exact b3b a b x y z c (h.1 z hz)
  ·rename_i c
   refine List.pairwise_cons.2 ⟨fun z hz=>?_,c0E h.2 (fun z hz=>hn z (by simp[hz]))⟩;rcases b1R.1 hz with rfl|hz
   ·have:=hn y (by simp);unfold ltE;omega
   ·exact h.1 z hz
theorem b5V{a b:Int}:∀ {l:List Ent},Ids l->(b2J a b l).Pairwise (ltE a b)
 |[],_=>by simp[b2J]
 |x :: r,h=>by
  obtain⟨h1,h2⟩:=h.cons;exact c0E (b5V h2) (fun z hz=>by have:=h1 z (a4U.1 hz);omega)
def a2x(name:ByteArray)(a b:Int)(es:List Ent):List Ent:=b2J a b (es.filter (b7U name a b))
theorem b3f{a:Int}{out:List Ent}(hid:Ids es)(h:out.Pairwise (ltE a b))(hm:∀ e,e∈out↔e∈es.filter (b7U name a b)):out=a2x name a b es :=
 a4i (b8e a b) (b3b a b) h (b5V (a5J _ hid)) (fun e=>(hm e).trans a4U.symm)
def a0O(ts:List (ByteArray × Int)):List Ent->List Ent->List Ent × List Int
 |done,[]=>(done,[])
 |done,e :: r =>
  if e.kind=3/\a1e ts (done++e :: r) e.a0k e.a0c e.a0e=true then
   ((a0O ts (done++[a0Q e]) r).1,e.id :: (a0O ts (done++[a0Q e]) r).2)
  else a0O ts (done++[e]) r
def a0R(ts:List (ByteArray × Int))(es:List Ent):List Ent × List Int:=a0O ts [] es
def a3D(tq:Int):List Ent->Int
 |[]=>tq
 |e :: r=>if e.kind≠1/\e.a0Z<a3D tq r then e.a0Z else a3D tq r
def a0z(t:Int)(e:Ent):Bool:=(e.kind != 1) && decide (e.a0Z=t)
def a1K(ts:List (ByteArray × Int)):Nat->List Ent->Int->Int->List Ent × List Int × List Int
 |0,es,_,_=>(es,[],[])
 |k+1,es,now,tq =>
  if now<tq then
   let t:=a3D tq es
   let g:=a0R ts (es.filter fun e=>!a0z t e)
   let q:=a1K ts k g.1 t tq
   (q.1,(es.filter (a0z t)).map (·.id)++q.2.1,g.2++q.2.2)
  else (es,[],[])
structure St where
 ts:List (ByteArray × Int)
 es:List Ent
 given:Int
 now:Int
structure Rep where
 err:Int
 at_:Int
 n:Int
 entries:List Ent
 days:List Int
 granted:List Int
 ended:List Int
def Rep.error(e:Int):Rep:=⟨e,0,0,[],[],[],[]⟩
def Rep.num(n:Int):Rep:=⟨0,0,n,[],[],[],[]⟩
inductive a7U where
 |a0k (name:ByteArray) (a0c:Int)
 |enter (kind:Int) (name:ByteArray) (a0c fr til long:Int)
 |series (name:ByteArray) (a0c:Int) (r:Rd.a0Y)
 |confirm (id:Int)
 |cancel (id:Int)
 |list (name:ByteArray) (fr til:Int)
 |waiting
 |peak (name:ByteArray) (fr til:Int)
 |find (name:ByteArray) (a0c long fr til:Int)
 |expand (r:Rd.a0Y)
 |tick (n:Int)
 |clock
def a2t(s:St)(e:Ent):St × Rep:=(⟨s.ts,s.es++[{ e with id:=s.given+1 }],s.given+1,s.now⟩,Rep.num (s.given+1))
def a1M(s:St)(kind:Int)(name:ByteArray)(a0c fr til long:Int):Int :=
 if a0S s.ts name a0c≠0 then a0S s.ts name a0c
 else if til<=fr\/1048320<s.now+long then 6
 else if s.given=60 then 5
 else if kind=3 then (if a1Y s.es=6 then 5 else 0)
 else if a1e s.ts s.es name a0c [(fr,til)] then 0 else 8
def a8p(s:St)(kind:Int)(name:ByteArray)(a0c fr til long:Int):Ent:=⟨0,kind,name,a0c,[(fr,til)],if kind=1 then 0 else s.now+long⟩
def a2l(s:St)(name:ByteArray)(a0c:Int)(r:Rd.a0Y):Int :=
 if a0S s.ts name a0c≠0 then a0S s.ts name a0c
 else if Rd.a6W r≠0 then Rd.a6W r
 else if s.given=60 then 5
 else if a1e s.ts s.es name a0c (Rd.a2M r (Rd.a0E r)) then 0 else 8
def a5S(id:Int)(es:List Ent):Option Ent:=es.find? fun e=>decide (e.id=id)
def a0g(s:St):a7U->St × Rep
 |.a0k name a0c=>if a0h name s.ts≠0 then (s,.error 4) else if s.ts.length=4 then (s,.error 5) else ({ s with ts:=s.ts++[(name,a0c)] },.num 0)
 |.enter kind name a0c fr til long=>if a1M s kind name a0c fr til long≠0 then (s,.error (a1M s kind name a0c fr til long)) else a2t s (a8p s kind name a0c fr til long)
 |.series name a0c r=>if a2l s name a0c r≠0 then (s,.error (a2l s name a0c r)) else a2t s ⟨0,1,name,a0c,Rd.a2M r (Rd.a0E r),0⟩
 |.confirm id=>match a5S id s.es with
  |none=>(s,.error 9)
  |some e=>if e.kind≠2 then (s,.error 10) else ({ s with es:=a0C id s.es },.num 0)
 |.cancel id=>match a5S id s.es with
  |none=>(s,.error 9)
  |some _=>({ s with es:=kept id s.es },.num 0)
 |.list name fr til=>if a0h name s.ts=0 then (s,.error 3) else if til<=fr then (s,.error 6) else (s,{ Rep.num 0 with entries:=a2x name fr til s.es })
 |.waiting=>(s,{ Rep.num 0 with entries:=s.es.filter fun e=>e.kind==3 })
 |.peak name fr til=>if a0h name s.ts=0 then (s,.error 3) else if til<=fr then (s,.error 6) else (s,.num (a1Q name s.es fr til))
 |.find name a0c long fr til=>if a0S s.ts name a0c≠0 then (s,.error (a0S s.ts name a0c)) else if til<=fr then (s,.error 6) else (s,.num (a9A s.ts s.es name a0c long fr til))
 |.expand r=>if Rd.a6W r≠0 then (s,.error (Rd.a6W r)) else (s,{ Rep.num (Rd.a0E r).length with days:=Rd.a0E r })
 |.tick n=>if 1048320<s.now+n then (s,.error 6) else
   let q:=a1K s.ts (s.es.length+1) s.es s.now (s.now+n)
   ({ s with es:=q.1,now:=s.now+n },{ Rep.num (s.now+n) with granted:=q.2.2,ended:=q.2.1 })
 |.clock=>(s,.num s.now)
def a1q(s:St)(l:a7U):St × Rep :=
 if (a0g s l).2.err≠0 then a0g s l
 else ({ (a0g s l).1 with es:=(a0R (a0g s l).1.ts (a0g s l).1.es).1 },{ (a0g s l).2 with granted:=(a0g s l).2.granted++(a0R (a0g s l).1.ts (a0g s l).1.es).2 })
def a1O:a7U->Prop
 |.a0k _ u=>1<=u/\u<=9
 |.enter k _ u fr til long=>(k=1/\long=0\/(k=2\/k=3)/\1<=long/\long<=1048320)/\1<=u/\u<=9/\0<=fr/\fr<=1048320/\0<=til/\til<=1048320
 |.series _ u r=>1<=u/\u<=9/\Rd.a6s r
 |.confirm id=>0<=id/\id<=9999999
 |.cancel id=>0<=id/\id<=9999999
 |.list _ fr til=>0<=fr/\fr<=1048320/\0<=til/\til<=1048320
 |.waiting=>True
 |.peak _ fr til=>0<=fr/\fr<=1048320/\0<=til/\til<=1048320
 |.find _ u long fr til=>1<=u/\u<=9/\1<=long/\long<=1048320/\0<=fr/\fr<=1048320/\0<=til/\til<=1048320
 |.expand r=>Rd.a6s r
 |.tick n=>1<=n/\n<=1048320
 |.clock=>True
structure a1H(now:Int)(e:Ent):Prop where
 u1:1<=e.a0c
 u9:e.a0c<=9
 sl:e.a0e.length<=40
 s0:e.a0e≠[]
 sp:c1P e.a0e
 ri:a2c e.a0e
 kd:(e.kind=1/\e.a0Z=0)\/((e.kind=2\/e.kind=3)/\now<e.a0Z/\e.a0Z<=1048320/\e.a0e.length=1)
structure Inv(s:St):Prop where
 tl:s.ts.length<=4
 tu:∀ t∈s.ts,1<=t.2/\t.2<=9
 tn:s.ts.Pairwise fun t u=>a0y t.1 u.1=false
 ids:Ids s.es
 idb:∀ e∈s.es,1<=e.id/\e.id<=s.given
 g0:0<=s.given
 g1:s.given<=60
 n0:0<=s.now
 n1:s.now<=1048320
 en:∀ e∈s.es,a1H s.now e
 th:∀ e∈s.es,e.a0c<=a0h e.a0k s.ts
 wa:a1Y s.es<=6
 no:∀ e∈s.es,e.kind=3->a1e s.ts s.es e.a0k e.a0c e.a0e=false
 wi:∀ name x,a0o name x s.es<=a0h name s.ts
end Desk
end Go.Proofs.YtfigmlfdnickmaaGreatDoor
