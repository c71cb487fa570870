import Derived.Test.YtfigmlfdnickmaaGreatDoorL06
import Derived.Deep.CutRange
import Derived.RangeFuncKeeps
import Derived.RangeFuncBound
import Derived.RangeFuncLeaves
import Derived.RangeFuncBox
import Derived.Shelf.Abstract
import Derived.OwnWalkIn
import Derived.TacticsInMore
import Derived.LoopNIn
import Derived.LoopIn
import Derived.Deep.RegionWith
import Derived.Deep.RegionHeld3
import Derived.Maps.AppendAt
import Derived.Deep.AppendLies
import Derived.Lib.SmallJoins
import Derived.Lib.SliceRun
set_option maxRecDepth 100000
set_option maxHeartbeats 8000000
variable{name:ByteArray}{a fr k la long mo til u x:Int}{p:Int->Bool}{l:List Int}{xs:List Go.Value}{B Bn Q b d e i m n n' n₀:Nat}{c1 col:Nat->Option Go.Proofs.YtfigmlfdnickmaaGreatDoor.Col}{r rw_:Go.Proofs.YtfigmlfdnickmaaGreatDoor.Raw}{s:Go.Proofs.YtfigmlfdnickmaaGreatDoor.Desk.St}{v:Go.Value}{W Y Z w w' w1 wx:Go.World}
namespace Go.Proofs.YtfigmlfdnickmaaGreatDoor
open Go.RowKit
open Desk (Ent St Ids kept a0C a0Q a1C a2e ofB a0y a2c Mid a1H a0z Inv)
def a1N(s:St)(e:Ent):St × Desk.Rep :=
 if s.given=60\/e.kind=3/\Desk.a1Y s.es=6 then (s,.error 5)
 else if e.kind≠3/\Desk.a1e s.ts s.es e.a0k e.a0c e.a0e=false then (s,.error 8)
 else Desk.a2t s e
def a1n(w:World)(B:Nat)(d:Nat)(col:Nat->Option Col)(q:St × Desk.Rep)(v:Value)(w':World):Prop :=
 ∃ (er n:Int) (r':Raw) (col':Nat->Option Col),v=a0s er 0 n (.slice none 0 0) (.slice none 0 0) (.slice none 0 0) (.slice none 0 0)/\q.2=⟨er,0,n,[],[],[],[]⟩/\DK w' d r' col'/\Of q.1 r'/\Wl r'/\Hl r'/\Step anyS B col col' w w'
theorem a4v{col':Nat->Option Col}{s':St}{r':Raw}(h1:DK Z d r' col')(h2:Of s' r')(h3:Wl r')(h4:Hl r')(h5:Step anyS B col col' w Z)(hQ:B<=Q)(hn:col' Q=none)(er n:Int)(a b c e f g i:Value):
  a1n w B d col (s',⟨er,0,n,[],[],[],[]⟩) (a0s er 0 n (.slice none 0 0) (.slice none 0 0) (.slice none 0 0) (.slice none 0 0)) (a2w Z Q a b c e f g i):=by
 have k:=a2R Z Q a b c e f g i;have st:Step anyS B col' col' Z (a2w Z Q a b c e f g i):=⟨⟨_,k,fun x hx=>.inr (by have:x=Q:=List.mem_singleton.1 hx;subst this;exact⟨hn,hQ⟩)⟩,fun _ _ h=>h,fun _ _ h=>.inl h⟩;exact⟨er,n,r',col',rfl,rfl,h1.off k (fun x hx=>by have:x=Q:=List.mem_singleton.1 hx;subst this;exact hn),h2,h3,h4,h5.trans st⟩
def EG.num(g:EG)(n:Int):EG:={ g with e:={ g.e with id:=n } }
theorem ENK.num{g:EG}(h:ENK w g)(hne:g.eb≠g.B)(n:Int):ENK (w.setCell ⟨g.eb,0,none⟩ (.int .i64 n)) (g.num n):=by
 have k:=Off.set0 g.eb w 0 (.int .i64 n);have hlt:=h.lt;refine⟨⟨zm _ _ _ h.en.c0,(zS _ _ _ _ (by simp)).trans h.en.c1,(zS _ _ _ _ (by simp)).trans h.en.c2,(zS _ _ _ _ (by simp)).trans h.en.c3,h.en.sl.off k (by simpa using Ne.symm hne),Nat.lt_of_lt_of_le h.en.lt k.size⟩,(zS _ _ _ _ (by simp)).trans h.k,(zS _ _ _ _ (by simp)).trans h.u,fun o=>(zF ..).trans (h.fz o),?_⟩;obtain⟨cs,e⟩:=h.bl;exact⟨_,heap_setCell_same _ _ _ _ _ _ e⟩
theorem Wl.a1Y(h:Wl r)(ho:Of s r):Desk.a1Y s.es=(r.wl.length:Int):=by
 unfold Desk.a1Y;rw[h,List.length_map,<- ho.es,List.filter_map,List.length_map];rfl
theorem b8G(h:DSt w d s r col){g:EG}(hg:ENK w g)(hB:B<=w.heap.size)(hf:s.given=60\/g.e.kind=3/\Desk.a1Y s.es=6):
  Calls Tryz.prog 144 #[.pointer (some ⟨d,0,none⟩),.pointer (some ⟨g.eb,0,none⟩)] w fun e w'=>∃ v,e=.returned v/\a1n w B d col (a1N s g.e) v w':=by
 have hX:Below w.heap.size w (w.alloc a0f):=(zr _ _).alloc (zq _) _;have QX:Hid (Q7 (w.alloc a0f) w.heap.size):=Q7.of (a0p w a0f);have cg:=(h.dk.later hX).c1;rw[h.of.given] at cg;have ck:=(hg.off (G:=[]) (Off.of_below hX) (by simp) (by simp)).k;have HD:Hid (a1N s g.e=(s,Desk.Rep.error 5)):=if_pos hf;obtain⟨v4,c4,own4,hc4⟩:=(h.dk.later hX).wa;obtain⟨a,cap,rfl⟩:=a0B own4;have hwn:=h.wl.a1Y h.of;have HH:=a0b h;have BX:=a0b hX;clear own4 hc4 h hX hg
 go_enter Tryz.func144,Tryz.ntmps144
 go_upto_region 1 with fail
 change Code.wp _ _ _ _ (w.alloc a0f);generalize w.alloc a0f=X at *;rcases hf with hf|⟨hf,hw⟩
 ·rw[hf] at cg
  go_wp2_with fail
  refine (a0D 5 X).mono ?_;rintro e w1 ⟨rfl,hb⟩;have hq:=hb.block w.heap.size (World.block_lt_of_cell? _ _ QX.out.q0)
  have HF:Hid (a1n w B d col (a1N s g.e) (a0s 5 0 0 (.slice none 0 0) (.slice none 0 0) (.slice none 0 0) (.slice none 0 0)) (a2w w1 w.heap.size (.int .i64 5) (.int .i64 0) (.int .i64 0) (.slice none 0 0) (.slice none 0 0) (.slice none 0 0) (.slice none 0 0))):=by
   rw[HD.out];exact a4v (HH.out.dk.later (BX.out.trans (hb.mono BX.out.size))) HH.out.of HH.out.wl HH.out.hl (Step.below (BX.out.trans (hb.mono BX.out.size))) hB (HH.out.dk.none (zq _)) 5 0 _ _ _ _ _ _ _
  obtain⟨q0,q1,q2,q3,q4,q5,q6,fq⟩:=QX.out.later hq;simp only[a0s]
  go_wp2_with fail
  exact d0O Tryz.results144 ⟨q0,q1,q2,q3,q4,q5,q6,fq⟩ ⟨_,rfl,HF.out⟩
 ·by_cases hg0:s.given<60
  ·rw[hf] at ck;rw[show r.wl.length=6 by omega] at c4
   go_wp2_with fail
   refine (a0D 5 X).mono ?_;rintro e w1 ⟨rfl,hb⟩;have hq:=hb.block w.heap.size (World.block_lt_of_cell? _ _ QX.out.q0)
   have HF:Hid (a1n w B d col (a1N s g.e) (a0s 5 0 0 (.slice none 0 0) (.slice none 0 0) (.slice none 0 0) (.slice none 0 0)) (a2w w1 w.heap.size (.int .i64 5) (.int .i64 0) (.int .i64 0) (.slice none 0 0) (.slice none 0 0) (.slice none 0 0) (.slice none 0 0))):=by
    rw[HD.out];exact a4v (HH.out.dk.later (BX.out.trans (hb.mono BX.out.size))) HH.out.of HH.out.wl HH.out.hl (Step.below (BX.out.trans (hb.mono BX.out.size))) hB (HH.out.dk.none (zq _)) 5 0 _ _ _ _ _ _ _
   obtain⟨q0,q1,q2,q3,q4,q5,q6,fq⟩:=QX.out.later hq;simp only[a0s]
   go_wp2_with fail
   exact d0O Tryz.results144 ⟨q0,q1,q2,q3,q4,q5,q6,fq⟩ ⟨_,rfl,HF.out⟩
  ·go_wp2_with fail
   refine (a0D 5 X).mono ?_;rintro e w1 ⟨rfl,hb⟩;have hq:=hb.block w.heap.size (World.block_lt_of_cell? _ _ QX.out.q0)
   have HF:Hid (a1n w B d col (a1N s g.e) (a0s 5 0 0 (.slice none 0 0) (.slice none 0 0) (.slice none 0 0) (.slice none 0 0)) (a2w w1 w.heap.size (.int .i64 5) (.int .i64 0) (.int .i64 0) (.slice none 0 0) (.slice none 0 0) (.slice none 0 0) (.slice none 0 0))):=by
    rw[HD.out];exact a4v (HH.out.dk.later (BX.out.trans (hb.mono BX.out.size))) HH.out.of HH.out.wl HH.out.hl (Step.below (BX.out.trans (hb.mono BX.out.size))) hB (HH.out.dk.none (zq _)) 5 0 _ _ _ _ _ _ _
   obtain⟨q0,q1,q2,q3,q4,q5,q6,fq⟩:=QX.out.later hq;simp only[a0s]
   go_wp2_with fail
   exact d0O Tryz.results144 ⟨q0,q1,q2,q3,q4,q5,q6,fq⟩ ⟨_,rfl,HF.out⟩
theorem DK.insEn(h:DK w d r col){f:Lit->Option Nat}(hc:w.cell? ⟨d,3,Option.none⟩=some (.map (some m)))(hm:col m=some .me)(hf:∀ id,f (b1K id)=a6U r.eg id){g:EG}(hg:ENK w g)(h1:col g.eb=Option.none)(h2:col g.B=Option.none)(h3:B<=g.eb)(h4:B<=g.B)(h5:g.eb≠g.B)(hno:∀ x∈r.eg,x.e.id≠g.e.id)(p:a4N Tryz.prog 3 w' m n' (Go.Proofs.YtfigmlfdnickmaaGreatDoor.upd f (b1K g.e.id) (some g.eb)) (if (f (b1K g.e.id)).isSome then r.eg.length else r.eg.length+1))(hgr:w.grownBy w' (some m)):
  ∃ col',DK w' d { r with eg:=r.eg++[g] } col'/\Step (·=.me) B col col' w w'/\∀ k,col k=Option.none->k≠g.eb->k≠g.B->col' k=Option.none:=by
 have k:Off [m] w w':=⟨hgr.os,hgr.tape,hgr.output,hgr.size,fun i hi hn=>hgr.block i hi (by simpa using hn)⟩;have st1:Step (·=.me) B col (a2Z col [g.eb] .ent) w w':=a3l k (fun x hx=>.inl ⟨_,by simp at hx;subst hx;exact hm,rfl⟩) (fun x hx _=>by simp at hx;omega)
 have hB1:a2Z col [g.eb] .ent g.B=Option.none:=by
  unfold a2Z;rw[h2];simp only;rw[if_neg (by simpa using Ne.symm h5)]
 have st2:Step (·=.me) B (a2Z col [g.eb] .ent) (a2Z (a2Z col [g.eb] .ent) [g.B] .span) w' w':=a3l (G:=[]) (Off.refl _ _) (by simp) (fun x hx _=>by simp at hx;omega);have st:=st1.trans st2;obtain⟨b1,b2,b3,b4,b5⟩:=h.base st (by simp);have hge:a2Z (a2Z col [g.eb] .ent) [g.B] .span g.eb=some .ent:=a9b (a5z (by simp) (fun c' hc=>by rw[h1] at hc;cases hc));have hgB:a2Z (a2Z col [g.eb] .ent) [g.B] .span g.B=some .span:=a5z (by simp) (fun c' hc=>by rw[hB1] at hc;cases hc);have hmne:g.eb≠m/\g.B≠m:=⟨fun e=>(by rw[e,hm] at h1;cases h1),fun e=>(by rw[e,hm] at h2;cases h2)⟩;refine⟨_,⟨b1,b2,h.mtC st (b5 2) (by simp),⟨m,upd f (b1K g.e.id) (some g.eb),(b5 3).trans hc,st.a9i _ _ hm,?_,fun x=>?_⟩,h.waC st (b5 4) (by simp),h.heC st (b5 5) (b3 5) (by simp),fun i hi=>h.thS st i hi (by simp),fun x hx=>?_,?_,?_,b3,b4,fun x c hx=>?_⟩,st,fun x hx n1 n2=>?_⟩
 ·rw[hf,a9D hno] at p;show a4N _ _ _ _ (r.eg++[g]).length _ (r.eg++[g]).length;rw[List.length_append];exact p.tight
 ·show upd f (b1K g.e.id) (some g.eb) (b1K x)=a6U (r.eg++[g]) x;rw[b5W hno]
  by_cases e:x=g.e.id
  ·rw[e,a4f,if_pos rfl]
  ·rw[a3n f _ (fun e2=>e (b6H e2)),if_neg e,hf]
 ·rcases List.mem_append.1 hx with hx|hx
  ·exact h.enS st (by simp) (by simp) x hx
  ·have:x=g:=by simpa using hx
   subst this;exact⟨hg.off k (by simpa using hmne.1) (by simpa using hmne.2),hge,hgB⟩
 ·show ((r.eg++[g]).map (·.eb)).Nodup;rw[List.map_append,List.nodup_append];refine⟨h.nd,by simp,fun a ha b hb e=>?_⟩;obtain⟨x,hx,rfl⟩:=List.mem_map.1 ha;have:=(h.en x hx).2.1;simp at hb;rw[e,hb,h1] at this;cases this
 ·show ((r.eg++[g]).map (·.e.id)).Nodup;rw[List.map_append,List.nodup_append];refine⟨h.ni,by simp,fun a ha b hb e=>?_⟩;obtain⟨x,hx,rfl⟩:=List.mem_map.1 ha;simp at hb;exact hno x hx (by rw[e,hb])
 ·rcases a1I hx with e|⟨_,e,_⟩
  ·rcases a1I e with e|⟨_,e,_⟩
   ·exact zL (h.lt x c e) st.size
   ·simp at e;subst e;exact zL hg.lt st.size
  ·simp at e;subst e;exact zL hg.en.lt st.size
 ·cases e:a2Z (a2Z col [g.eb] .ent) [g.B] .span x with
  |none=>rfl
  |some c =>
   rcases a1I e with e|⟨_,e,_⟩
   ·rcases a1I e with e|⟨_,e,_⟩
    ·rw[hx] at e;cases e
    ·exact absurd (List.mem_singleton.1 e) n1
   ·exact absurd (List.mem_singleton.1 e) n2
theorem DK.insTn(h:DK w d r col){f:Lit->Option Nat}(hc:w.cell? ⟨d,2,Option.none⟩=some (.map (some m)))(hm:col m=some .mt)(hf:∀ n,f (b8f n)=b2r r.tg n){t:TG}(ht:TH w t.tb t.name t.a0c t.A t.T Option.none Option.none [] [])(h1:col t.tb=Option.none)(h3:B<=t.tb)(hno:∀ x∈r.tg,x.name≠t.name)(p:a4N Tryz.prog 9 w' m n' (Go.Proofs.YtfigmlfdnickmaaGreatDoor.upd f (b8f t.name) (some t.tb)) (if (f (b8f t.name)).isSome then r.tg.length else r.tg.length+1))(hgr:w.grownBy w' (some m)):
  ∃ col',DK w' d { r with tg:=r.tg++[t] } col'/\Step (·=.mt) B col col' w w'/\∀ k,col k=Option.none->k≠t.tb->col' k=Option.none:=by
 have k:Off [m] w w':=⟨hgr.os,hgr.tape,hgr.output,hgr.size,fun i hi hn=>hgr.block i hi (by simpa using hn)⟩;have st:Step (·=.mt) B col (a2Z col [t.tb] (.a0k r.tg.length)) w w':=a3l k (fun x hx=>.inl ⟨_,by simp at hx;subst hx;exact hm,rfl⟩) (fun x hx _=>by simp at hx;omega);obtain⟨b1,b2,b3,b4,b5⟩:=h.base st (by simp);have hmne:t.tb≠m:=fun e=>by rw[e,hm] at h1;cases h1
 have hte:a2Z col [t.tb] (.a0k r.tg.length) t.tb=some (.a0k r.tg.length):=a5z (by simp) (fun c' hc=>by rw[h1] at hc;cases hc)
 have hnone:b2r r.tg t.name=Option.none:=by
  rw[a3r];have:r.tg.find? (fun y=>Desk.a0y y.name t.name)=Option.none:=List.find?_eq_none.2 (fun y hy=>by rw[Bool.not_eq_true,a3d];exact hno y hy);rw[this];rfl
 refine⟨_,⟨b1,b2,⟨m,upd f (b8f t.name) (some t.tb),(b5 2).trans hc,st.a9i _ _ hm,?_,fun x=>?_⟩,h.meC st (b5 3) (by simp),h.waC st (b5 4) (by simp),h.heC st (b5 5) (b3 5) (by simp),fun i hi=>?_,h.enS st (by simp) (by simp),h.nd,h.ni,b3,b4,fun x c hx=>?_⟩,st,fun x hx n1=>?_⟩
 ·rw[hf,hnone] at p;show a4N _ _ _ _ (r.tg++[t]).length _ (r.tg++[t]).length;rw[List.length_append];exact p.tight
 ·show upd f (b8f t.name) (some t.tb) (b8f x)=b2r (r.tg++[t]) x;rw[b9k hno]
  by_cases e:x=t.name
  ·rw[e,a4f,if_pos rfl]
  ·rw[a3n f _ (fun e2=>e (c2N e2)),if_neg e,hf]
 ·have hi':i<r.tg.length+1:=by simpa using hi
  by_cases e:i<r.tg.length
  ·have e2:(r.tg++[t])[i]'(by simpa using hi')=r.tg[i]:=List.getElem_append_left e;show ∃ ul us Fl Fs,TH w' (r.tg++[t])[i].tb _ _ _ _ ul us Fl Fs/\_;rw[e2];exact h.thS st i e (by simp)
  ·have e3:i=r.tg.length:=by omega
   subst e3;have e2:(r.tg++[t])[r.tg.length]'(by simp)=t:=by simp
   show ∃ ul us Fl Fs,TH w' (r.tg++[t])[r.tg.length].tb _ _ _ _ ul us Fl Fs/\_;rw[e2];refine⟨Option.none,Option.none,[],[],ht.off k (fun x hx=>by simp at hx;subst hx;simpa using hmne),fun x hx=>by simp at hx;subst hx;exact hte⟩
 ·rcases a1I hx with e|⟨_,e,_⟩
  ·exact zL (h.lt x c e) st.size
  ·simp at e;subst e;exact zL (ht.lt _ (by simp)) st.size
 ·cases e:a2Z col [t.tb] (.a0k r.tg.length) x with
  |none=>rfl
  |some c =>
   rcases a1I e with e|⟨_,e,_⟩
   ·rw[hx] at e;cases e
   ·exact absurd (List.mem_singleton.1 e) n1
structure TLs(w T:World)(B d Q:Nat)(s:St)(r:Raw)(col:Nat->Option Col)(g:EG)(r1:Raw)(c1:Nat->Option Col):Prop where
 dk:DK T d r1 c1
 en:ENK T (g.num (s.given+1))
 ce:c1 g.eb=none
 cb:c1 g.B=none
 st:Step anyS B col c1 w T
 q7:Q7 T Q
 qc:c1 Q=none
 of:Of (Desk.a2t s g.e).1 { r1 with given:=s.given+1,eg:=r1.eg++[g.num (s.given+1)] }
 wl:Wl { r1 with given:=s.given+1,eg:=r1.eg++[g.num (s.given+1)] }
 eg:r1.eg=r.eg
 hl:r1.hl=r.hl
def TL(w T:World)(B d Q:Nat)(s:St)(r:Raw)(col:Nat->Option Col)(g:EG):Prop:=∃ r1 c1,TLs w T B d Q s r col g r1 c1
structure b4h(w:World)(B d:Nat)(s:St)(r:Raw)(col:Nat->Option Col)(g:EG)(i:Nat):Prop where
 ds:DSt w d s r col
 en:ENK w g
 ce:col g.eb=none
 cb:col g.B=none
 be:B<=g.eb
 bb:B<=g.B
 ne:g.eb≠g.B
 hB:B<=w.heap.size
 hi:i<r.tg.length
 name:r.tg[i].name=g.e.a0k
 tb:g.tb=r.tg[i].tb
 ok:a1H s.now g.e
theorem b4h.num{g:EG}(h:b4h w B d s r col g i)(n:Int):a1H s.now (g.num n).e:=⟨h.ok.u1,h.ok.u9,h.ok.sl,h.ok.s0,h.ok.sp,h.ok.ri,h.ok.kd⟩
theorem b4h.fresh{g:EG}(h:b4h w B d s r col g i):∀ x∈r.eg,x.e.id≠(g.num (s.given+1)).e.id:=fun x hx e=>by
 have:=(h.ds.inv.idb _ (h.ds.of.mem hx)).2;simp only[EG.num] at e;omega
structure c7g(w Y:World)(B d Q:Nat)(s:St)(r:Raw)(col:Nat->Option Col)(g:EG):Prop where
 dk:DK Y d r col
 en:ENK Y (g.num (s.given+1))
 st:Step anyS B col col w Y
 q7:Q7 Y Q
 ql:Q<Y.heap.size
 qc:col Q=none
theorem b4h.numd{g:EG}(h:b4h w B d s r col g i):c7g w ((w.alloc a0f).setCell ⟨g.eb,0,none⟩ (.int .i64 (s.given+1))) B d w.heap.size s r col g:=by
 have hX:Below w.heap.size w (w.alloc a0f):=(zr _ _).alloc (zq _) _;have hg:=(h.en.off (G:=[]) (Off.of_below hX) (by simp) (by simp));have k:=Off.set0 g.eb (w.alloc a0f) 0 (.int .i64 (s.given+1));have hlt:=h.en.lt;refine⟨(h.ds.dk.later hX).off k (fun x hx=>?_),hg.num h.ne _,(Step.below hX).trans ⟨⟨_,k,fun x hx=>.inr ?_⟩,fun _ _ h=>h,fun _ _ h=>.inl h⟩,(Q7.of (a0p w a0f)).later (k.block _ (by simp) (by simp;omega)),Nat.lt_of_lt_of_le (by simp) k.size,h.ds.dk.none (zq _)⟩
 ·have:x=g.eb:=List.mem_singleton.1 hx;subst this;exact h.ce
 ·have:x=g.eb:=List.mem_singleton.1 hx;subst this;exact⟨h.ce,h.be⟩
theorem b4h.took{g:EG}(h:b4h w B d s r col g i)(y:c7g w Y B d Q s r col g)(hk:g.e.kind≠3)(q1:DK w1 d (r.setT i ((r.tg[i]'h.hi).with (a1z (r.tg[i]'h.hi).A g.e.a0e g.e.a0c) (a7e (s.given+1) g.eb (r.tg[i]'h.hi).T g.e.a0e))) c1)(q2:Step (·=.a0k i) Y.heap.size col c1 Y w1):TL w w1 B d Q s r col g:=by
 have hlt:=y.en.lt;have hltB:=y.en.en.lt;have o:=(h.ds.of.comes h.ds.inv.tn (g:=g.num (s.given+1)) h.fresh hk h.ok.ri h.hi h.name h.tb (s.given+1)).1;refine⟨_,c1,q1,q2.enk y.en (.inr ⟨h.ce,hlt⟩) (.inr ⟨h.cb,hltB⟩),q2.keepN h.ce hlt,q2.keepN h.cb hltB,y.st.trans (q2.any (Nat.le_trans h.hB y.st.size)),y.q7.later (q2.blockN y.ql y.qc y.ql),q2.keepN y.qc y.ql,?_,?_,rfl,rfl⟩
 ·exact⟨o.now,o.given,o.ts,o.es,o.th,o.tb⟩
 ·exact h.ds.wl.comes (g:=g.num (s.given+1)) hk
theorem b4h.waits{g:EG}(h:b4h w B d s r col g i)(y:c7g w Y B d Q s r col g)(hk:g.e.kind=3)(q1:DK w1 d { r with wl:=r.wl++[g.eb] } c1)(q2:Step (fun c=>c=.wa\/c=.desk) Y.heap.size col c1 Y w1):TL w w1 B d Q s r col g:=by
 have hlt:=y.en.lt;have hltB:=y.en.en.lt;have o:=h.ds.of.comesW (g:=g.num (s.given+1)) h.fresh hk h.hi h.name h.tb (s.given+1);refine⟨_,c1,q1,q2.enk y.en (.inr ⟨h.ce,hlt⟩) (.inr ⟨h.cb,hltB⟩),q2.keepN h.ce hlt,q2.keepN h.cb hltB,y.st.trans (q2.any (Nat.le_trans h.hB y.st.size)),y.q7.later (q2.blockN y.ql y.qc y.ql),q2.keepN y.qc y.ql,?_,?_,rfl,rfl⟩
 ·exact⟨o.now,o.given,o.ts,o.es,o.th,o.tb⟩
 ·exact h.ds.wl.comesW (g:=g.num (s.given+1)) hk
structure TL2(w T:World)(B d Q:Nat)(s:St)(r:Raw)(col:Nat->Option Col)(g:EG)(r2:Raw)(c2:Nat->Option Col):Prop where
 dk:DK T d r2 c2
 mem:g.num (s.given+1)∈r2.eg
 st:Step anyS B col c2 w T
 q7:Q7 T Q
 ql:Q<T.heap.size
 qc:c2 Q=none
 of:Of (Desk.a2t s g.e).1 r2
 wl:Wl r2
 eg:r2.eg=r.eg++[g.num (s.given+1)]
 hl:r2.hl=r.hl
theorem TLs.store{T:World}{g:EG}{r1:Raw}(t:TLs w T B d w.heap.size s r col g r1 c1)(a:b4h w B d s r col g i):
  ∃ m,(T.setCell ⟨d,1,none⟩ (.int .i64 (s.given+1))).cell? ⟨d,3,none⟩=some (.map (some m))/\(T.setCell ⟨d,1,none⟩ (.int .i64 (s.given+1))).cell? ⟨g.eb,0,none⟩=some (.int .i64 (s.given+1)) /\
   ∃ w3,(Instr.mapUpdate 138 (.map (some m)) (.int .i64 (s.given+1)) (.pointer (some ⟨g.eb,0,none⟩))).run Tryz.prog (T.setCell ⟨d,1,none⟩ (.int .i64 (s.given+1))).drew=.ok () w3/\∃ r2 c2,TL2 w w3 B d w.heap.size s r col g r2 c2:=by
 obtain⟨sg1,sg2⟩:=t.dk.setGiven (s.given+1);have hdB:=t.dk.dc;have hne:g.eb≠d:=fun e=>by have:=t.ce;rw[e,hdB] at this;cases this
 have hnB:g.B≠d:=fun e=>by have:=t.cb;rw[e,hdB] at this;cases this
 have k0:=Off.set0 d T 1 (.int .i64 (s.given+1));have en1:ENK (T.setCell ⟨d,1,none⟩ (.int .i64 (s.given+1))) (g.num (s.given+1)):=t.en.off k0 (by simpa[EG.num] using hne) (by simpa[EG.num] using hnB);have hq1:Q7 (T.setCell ⟨d,1,none⟩ (.int .i64 (s.given+1))) w.heap.size:=t.q7.later (sg2.blockN (World.block_lt_of_cell? _ _ t.q7.q0) t.qc (World.block_lt_of_cell? _ _ t.q7.q0));have hst1:Step anyS B col c1 w (T.setCell ⟨d,1,none⟩ (.int .i64 (s.given+1))):=t.st.trans (sg2.any (Nat.le_trans a.hB t.st.size));generalize T.setCell ⟨d,1,none⟩ (.int .i64 (s.given+1))=T1 at *;obtain⟨m,f,a1,a2,a3,a4⟩:=sg1.me;have hg0:=a.ds.inv.g0;have hg1:=a.ds.inv.g1;have kk:=a9g (n:=s.given+1) (by omega) (by omega)
 have hlen:r1.eg.length<=60:=by
  have h2:r.eg.length=s.es.length:=by rw[<- a.ds.of.es];simp
  have h3:=a1x a.ds.mid;rw[t.eg];omega
 obtain⟨w3,hrun,p1,p2⟩:=(a3.block (w':=T1.drew) rfl).storeRun b3h Tryz.underlying138 (by unfold maxLen;show r1.eg.length<_;omega) kk (by unfold b1K;trivial) g.eb;have d1:=sg1.later (a0q T1);have en2:ENK T1.drew (g.num (s.given+1)):=en1.off (G:=[]) (Off.of_below (a0q T1)) (by simp) (by simp);obtain⟨c2,e1,e2,e3⟩:=d1.insEn (g:=g.num (s.given+1)) (B:=B) a1 a2 a4 en2 t.ce t.cb a.be a.bb a.ne (fun x hx=>a.fresh x (by rw[<- t.eg];exact hx)) p1 p2;have hql:w.heap.size<T1.drew.heap.size:=World.block_lt_of_cell? _ _ hq1.q0;have hmq:w.heap.size≠m:=fun e=>by have:=t.qc;rw[e,a2] at this;cases this
 have hb:w3.heap[w.heap.size]?=T1.heap[w.heap.size]?:=p2.block _ hql (fun e=>hmq (Option.some.inj e));have hq3:=hq1.later hb;refine⟨m,a1,en1.en.c0,w3,hrun,_,c2,e1,List.mem_append_right _ (List.mem_singleton.2 rfl),(hst1.trans (Step.below (a0q T1))).trans (e2.mono (fun _ _=>trivial) (zq _)),hq3,World.block_lt_of_cell? _ _ hq3.q0,?_,t.of,t.wl,?_,t.hl⟩
 ·exact e3 _ t.qc (fun e=>by have:=a.en.lt;rw[show (g.num (s.given+1)).eb=g.eb from rfl] at e;omega) (fun e=>by have:=a.en.en.lt;rw[show (g.num (s.given+1)).B=g.B from rfl] at e;omega)
 ·show r1.eg++[_]=_;rw[t.eg]
theorem b7i(h:DK w d r col)(hh:Hp.a6r r.hl)(hl:r.hl.length<=900)(g:EG):
  Calls Tryz.prog 198 #[.pointer (some ⟨d,5,none⟩),.int .i64 g.e.a0Z,.int .i64 g.e.id,.pointer (some ⟨g.eb,0,none⟩)] w fun e w'=>e=.returned (.tuple #[])/\∃ (l':List Hp.Hi) (col':Nat->Option Col),Hp.a6r l'/\l'.Perm (r.hl++[a9r g])/\DK w' d { r with hl:=l' } col'/\Step (fun c=>c=.he\/c=.desk) w.heap.size col col' w w':=by
 obtain⟨v,a1,a2⟩:=h.he;refine (c3d d 5 v r.hl (a9r g) w a1 hh hl).mono ?_;rintro e w' ⟨rfl,l',p,h1,h2⟩;obtain⟨col',k1,k2⟩:=h.heap a2 p;exact⟨rfl,l',col',h1,h2,k1,k2⟩
theorem b8F{g:EG}(h:b4h w B d s r col g i)(hgv:s.given<60)(hk:g.e.kind≠3):
  Calls Tryz.prog 144 #[.pointer (some ⟨d,0,none⟩),.pointer (some ⟨g.eb,0,none⟩)] w fun e w'=>∃ v,e=.returned v/\a1n w B d col (a1N s g.e) v w':=by
 have hX:Below w.heap.size w (w.alloc a0f):=(zr _ _).alloc (zq _) _;have YY:=a0b h.numd;have cg:=(h.ds.dk.later hX).c1;rw[h.ds.of.given] at cg;have hgX:=(h.en.off (G:=[]) (Off.of_below hX) (by simp) (by simp));have ck:=hgX.k;have ci:=hgX.en.c0;have fi:=hgX.fz 0;have ct:=hgX.en.c1;have hg0:=h.ds.inv.g0;have hw1:IntKind.i64.wrap (s.given+1)=s.given+1:=a0i (by omega) (by omega)
 have HN:Hid (r.hl.length<=900):=by
  have h1:=h.ds.hl.len;have h2:r.eg.length=s.es.length:=by rw[<- h.ds.of.es];simp
  have h3:=a1x h.ds.mid;show _<=_;omega
 have HH:=a0b h;have hkb:(g.e.kind==3)=false:=by simpa using hk
 have hm:=h.ds.mid;have hi:=h.hi;have hhold:=b3a hm h.ds.of (e:=(g.num (s.given+1)).e) h.ok.sp h.ok.u1 hi h.name;have hfit:=b4W hm h.ds.of (h.num (s.given+1)) hi;have hroom:=b1H hm h.ds.of hi;have hcome:=(h.ds.of.comes h.ds.inv.tn (g:=g.num (s.given+1)) h.fresh hk h.ok.ri hi h.name h.tb (s.given+1)).2;have HT:=a0b (And.intro hhold (And.intro hfit (And.intro hroom hcome)));clear h hX hgX hm hhold hfit hroom hcome
 go_enter Tryz.func144,Tryz.ntmps144
 go_upto_region 1 with fail
 change Code.wp _ _ _ _ (w.alloc a0f);generalize w.alloc a0f=X at *
 go_upto_region 6 with fail
 have cy:(X.setCell ⟨g.eb,0,none⟩ (.int .i64 (s.given+1))).cell? ⟨g.eb,2,none⟩=some (.pointer (some ⟨g.tb,0,none⟩)):=YY.out.en.en.c1;generalize X.setCell ⟨g.eb,0,none⟩ (.int .i64 (s.given+1))=Y at YY cy ⊢;clear cg ck ci fi ct
 cases hfit:Desk.a1e s.ts s.es g.e.a0k g.e.a0c g.e.a0e with
 |false =>
  have HD:Hid (a1N s g.e=(s,Desk.Rep.error 8)):=by
   unfold a1N;rw[if_neg (by omega),if_pos ⟨hk,hfit⟩];rfl
  have TA:=a0b (b7e YY.out.dk i HH.out.hi YY.out.en HH.out.tb (by show col g.eb≠_;rw[HH.out.ce];simp) (by show col g.B≠_;rw[HH.out.cb];simp) HT.out.2.1 (by rw[HT.out.1];exact hfit));clear hfit
  go_wp2_with fail
  refine TA.out.mono ?_;rintro e w0 ⟨rfl,c0,q1,q2⟩;have Q1:Hid (Q7 w0 w.heap.size/\c0 w.heap.size=none):=⟨YY.out.q7.later (q2.blockN YY.out.ql YY.out.qc YY.out.ql),q2.keepN YY.out.qc YY.out.ql⟩;have P1:Hid (DK w0 d r c0/\Step anyS B col c0 w w0):=⟨q1,YY.out.st.trans (q2.any (Nat.le_trans HH.out.hB YY.out.st.size))⟩;clear q1 q2 TA cy
  go_wp2_with fail
  refine (a0D 8 w0).mono ?_;rintro e w1 ⟨rfl,hb⟩;have hq:=hb.block w.heap.size (World.block_lt_of_cell? _ _ Q1.out.1.q0)
  have HF:Hid (a1n w B d col (a1N s g.e) (a0s 8 0 0 (.slice none 0 0) (.slice none 0 0) (.slice none 0 0) (.slice none 0 0)) (a2w w1 w.heap.size (.int .i64 8) (.int .i64 0) (.int .i64 0) (.slice none 0 0) (.slice none 0 0) (.slice none 0 0) (.slice none 0 0))):=by
   rw[HD.out];exact a4v (P1.out.1.later hb) HH.out.ds.of HH.out.ds.wl HH.out.ds.hl (P1.out.2.trans (Step.below hb)) HH.out.hB Q1.out.2 8 0 _ _ _ _ _ _ _
  obtain⟨q0,q1,q2,q3,q4,q5,q6,fq⟩:=Q1.out.1.later hq;simp only[a0s]
  go_wp2_with fail
  exact d0O Tryz.results144 ⟨q0,q1,q2,q3,q4,q5,q6,fq⟩ ⟨_,rfl,HF.out⟩
 |true =>
  have HD:Hid (a1N s g.e=Desk.a2t s g.e):=by
   unfold a1N;rw[if_neg (by omega),if_neg (by rw[hfit];simp)];rfl
  have TA:=a0b (b3F YY.out.dk i HH.out.hi YY.out.en HH.out.tb (by show col g.eb≠_;rw[HH.out.ce];simp) (by show col g.B≠_;rw[HH.out.cb];simp) HT.out.2.1 ⟨HT.out.2.2.1.1,HT.out.2.2.1.2,HT.out.2.2.2,a6b HH.out.ok.ri⟩ (by rw[HT.out.1];exact hfit));clear hfit
  go_wp2_with fail
  refine TA.out.mono ?_;rintro e w0 ⟨rfl,c0,q1,q2⟩;have TT:Hid (TL w w0 B d w.heap.size s r col g):=HH.out.took YY.out hk q1 q2;clear q1 q2 TA cy c0
  by_cases hk1:g.e.kind=1
  ·obtain⟨r1,c1,tl⟩:=TT.out;have c0:w0.cell? ⟨g.eb,0,none⟩=some (.int .i64 (s.given+1)):=tl.en.en.c0;have d1:=tl.dk.c1;have f1:=tl.dk.fz 1;obtain⟨m,s1,s2,w3,hrun,r2,c2,t2⟩:=tl.store HH.out;have T2:=a0b t2;clear tl t2
   go_upto_region 9 with fail
   generalize w0.setCell ⟨d,1,none⟩ (.int .i64 (s.given+1))=T1 at s1 s2 hrun ⊢;clear c0 d1 f1
   go_big_region
   clear hrun s1 s2;obtain⟨e1,e2,e3⟩:=T2.out.dk.en _ T2.out.mem;have k0:w3.cell? ⟨g.eb,0,none⟩=some (.int .i64 (s.given+1)):=e1.en.c0;have k1:w3.cell? ⟨g.eb,1,none⟩=some (.int .i64 g.e.kind):=e1.k;have k5:w3.cell? ⟨g.eb,5,none⟩=some (.int .i64 g.e.a0Z):=e1.u;clear e1 e2 e3;have hkb1:(g.e.kind != 1)=false:=by simpa using hk1
   have HF:Hid (a1n w B d col (a1N s g.e) (a0s 0 0 (s.given+1) (.slice none 0 0) (.slice none 0 0) (.slice none 0 0) (.slice none 0 0)) (a2w w3 w.heap.size (.int .i64 0) (.int .i64 0) (.int .i64 (s.given+1)) (.slice none 0 0) (.slice none 0 0) (.slice none 0 0) (.slice none 0 0))):=by
    rw[HD.out];have X2:=T2.out;refine a4v X2.dk X2.of X2.wl ?_ X2.st HH.out.hB X2.qc 0 (s.given+1) _ _ _ _ _ _ _;have hh:=HH.out.ds.hl.comes1 (g:=g.num (s.given+1)) hk1;unfold Hl at hh ⊢;rw[X2.eg,X2.hl];exact hh
   obtain⟨q0,q1,q2,q3,q4,q5,q6,fq⟩:=T2.out.q7
   go_wp2_with fail
   exact d0O Tryz.results144 ⟨q0,q1,q2,q3,q4,q5,q6,fq⟩ ⟨_,rfl,HF.out⟩
  ·obtain⟨r1,c1,tl⟩:=TT.out;have c0:w0.cell? ⟨g.eb,0,none⟩=some (.int .i64 (s.given+1)):=tl.en.en.c0;have d1:=tl.dk.c1;have f1:=tl.dk.fz 1;obtain⟨m,s1,s2,w3,hrun,r2,c2,t2⟩:=tl.store HH.out;have T2:=a0b t2;clear tl t2
   go_upto_region 9 with fail
   generalize w0.setCell ⟨d,1,none⟩ (.int .i64 (s.given+1))=T1 at s1 s2 hrun ⊢;clear c0 d1 f1
   go_big_region
   clear hrun s1 s2;obtain⟨e1,e2,e3⟩:=T2.out.dk.en _ T2.out.mem;have k0:w3.cell? ⟨g.eb,0,none⟩=some (.int .i64 (s.given+1)):=e1.en.c0;have k1:w3.cell? ⟨g.eb,1,none⟩=some (.int .i64 g.e.kind):=e1.k;have k5:w3.cell? ⟨g.eb,5,none⟩=some (.int .i64 g.e.a0Z):=e1.u;clear e1 e2 e3;have hkb1:(g.e.kind != 1)=true:=by simpa using hk1
   have PU:=a0b (fun wx (k:Below w3.heap.size w3 wx)=>b7i (T2.out.dk.later k) (by rw[T2.out.hl];exact HH.out.ds.hl.1) (by rw[T2.out.hl];exact HN.out) (g.num (s.given+1)))
   go_upto_region 11 with fail
   go_region_held3 (fun w'=>w'.cell? ⟨g.eb,0,none⟩=some (.int .i64 (s.given+1))/\w'.cell? ⟨g.eb,5,none⟩=some (.int .i64 g.e.a0Z))
    (first
     |exact⟨k0,k5⟩
     |exact⟨((p3.en _ T2.out.mem).1).en.c0,((p3.en _ T2.out.mem).1).u⟩)
    (first
     |(go_at_call 198;refine (PU.out _ (a0q w3)).mono ?_;rintro e w4 ⟨rfl,l',c3,p1,p2,p3,p4⟩))
   have k04:w4.cell? ⟨g.eb,0,none⟩=some (.int .i64 (s.given+1)):=((p3.en _ T2.out.mem).1).en.c0;have hq:=p4.blockN T2.out.ql T2.out.qc T2.out.ql
   have HF:Hid (a1n w B d col (a1N s g.e) (a0s 0 0 (s.given+1) (.slice none 0 0) (.slice none 0 0) (.slice none 0 0) (.slice none 0 0)) (a2w w4 w.heap.size (.int .i64 0) (.int .i64 0) (.int .i64 (s.given+1)) (.slice none 0 0) (.slice none 0 0) (.slice none 0 0) (.slice none 0 0))):=by
    rw[HD.out];have X2:=T2.out;have o:=X2.of;refine a4v p3 ⟨o.now,o.given,o.ts,o.es,o.th,o.tb⟩ X2.wl ?_ ((X2.st.trans (Step.below (a0q w3))).trans (p4.any (Nat.le_trans HH.out.hB X2.st.size))) HH.out.hB (p4.keepN X2.qc X2.ql) 0 (s.given+1) _ _ _ _ _ _ _;have hh:=HH.out.ds.hl.comes (g:=g.num (s.given+1)) hk1 p1 (by rw[<- X2.hl];exact p2);unfold Hl at hh ⊢;show _/\List.Perm l' ((r2.eg.filter _).map _);rw[X2.eg];exact hh
   clear p1 p2 p3 p4 PU k0 k1 k5;obtain⟨q0,q1,q2,q3,q4,q5,q6,fq⟩:=T2.out.q7.later hq
   go_wp2_with fail
   exact d0O Tryz.results144 ⟨q0,q1,q2,q3,q4,q5,q6,fq⟩ ⟨_,rfl,HF.out⟩
theorem c6n:(Tryz.prog.info? 197).map (fun i=>(i.zero,i.size,i.bytes))=some (some (.pointer none),1,8):=by kernel_rfl
theorem b8E{g:EG}(h:b4h w B d s r col g i)(hgv:s.given<60)(hk:g.e.kind=3)(hw6:r.wl.length<6):
  Calls Tryz.prog 144 #[.pointer (some ⟨d,0,none⟩),.pointer (some ⟨g.eb,0,none⟩)] w fun e w'=>∃ v,e=.returned v/\a1n w B d col (a1N s g.e) v w':=by
 have hX:Below w.heap.size w (w.alloc a0f):=(zr _ _).alloc (zq _) _;have YY:=a0b h.numd;have cg:=(h.ds.dk.later hX).c1;rw[h.ds.of.given] at cg;have hgX:=(h.en.off (G:=[]) (Off.of_below hX) (by simp) (by simp));have ck:=hgX.k;have ci:=hgX.en.c0;have fi:=hgX.fz 0;have ct:=hgX.en.c1;have hg0:=h.ds.inv.g0;have hw1:IntKind.i64.wrap (s.given+1)=s.given+1:=a0i (by omega) (by omega)
 have HN:Hid (r.hl.length<=900):=by
  have h1:=h.ds.hl.len;have h2:r.eg.length=s.es.length:=by rw[<- h.ds.of.es];simp
  have h3:=a1x h.ds.mid;show _<=_;omega
 have HH:=a0b h;obtain⟨i0,hi0,hz0,hz1,hz2⟩:=info_parts c6n;obtain⟨v4,c4,own4,hc4⟩:=h.numd.dk.wa
 have cX4:(w.alloc a0f).cell? ⟨d,4,none⟩=some v4:=by
  rw[<- c4];exact (zS _ _ _ _ (by simp)).symm
 obtain⟨a,cap,rfl⟩:=a0B own4;have hwn:=h.ds.wl.a1Y h.ds.of;have fd4:=h.numd.dk.fz 4;have O4:=a0b (And.intro own4 hc4);have hdl:=World.block_lt_of_cell? _ _ c4;have hdv:d ∉ (Value.slice a r.wl.length cap).ownBlock.toList:=fun e=>by have:=hc4 _ (Option.mem_toList.1 e);rw[h.ds.dk.dc] at this;cases this
 rw[hk] at ck;clear h hX hgX own4 hc4
 go_enter Tryz.func144,Tryz.ntmps144
 go_upto_region 1 with fail
 change Code.wp _ _ _ _ (w.alloc a0f);generalize w.alloc a0f=X at *
 have HD:Hid (a1N s g.e=Desk.a2t s g.e):=by
  unfold a1N;rw[if_neg (by omega),if_neg (by simp[hk])];rfl
 go_upto_region 5 with fail
 generalize X.setCell ⟨g.eb,0,none⟩ (.int .i64 (s.given+1))=Y at *;clear cg ck ci fi ct cX4
 go_upto_region 8 with (first
  |(at_builtin;refine wpList_append_lies _ rfl _ _ 139 rfl 0 197 i0 _ 1 8 Tryz.underlying139 hi0 hz0 hz1 hz2 rfl (by decide) _ _ _ rfl (O4.out.1.alloc _) ⟨Y.heap.size,0,none⟩ 1 1 [a5x g.eb] rfl rfl (World.news_of_block (cs:=#[a5x g.eb]) (a0p Y _)) (by simp[a5x,Value.oneCell']) (by omega) (by unfold maxLen;omega) (by omega) (by simp) (Y.heap.size+1) (by simp) ?_;intro g2 cap2 w1 hown hgrow hat hlt;have kk:Off ((Value.slice a r.wl.length cap).ownBlock.toList) Y w1:=Off.grown ((Off.refl _ Y).alloc _) hgrow (fun k hk=>.inl (Option.mem_toList.2 hk));have z1:=kk.cell hdv c4;have z2:=(kk.frozen (o:=4) hdv hdl).trans fd4;clear hgrow))
 have hat':(Value.slice a r.wl.length cap).ownBlock=some g2\/g2=Y.heap.size+1:=hat
 have SW:=a0b (YY.out.dk.setWait (wl':=r.wl++[g.eb]) (v':=.slice (some ⟨g2,0,none⟩) (r.wl.length+1) cap2) O4.out.2 kk (by rw[List.length_append,List.map_append];exact hown) (fun b hb=>by
  have:g2=b:=by simpa[Value.ownBlock] using hb
  subst this;rcases hat' with e|e
  ·exact .inl e
  ·exact .inr (by omega)))
 have TT:Hid (TL w (w1.setCell ⟨d,4,none⟩ (.slice (some ⟨g2,0,none⟩) (r.wl.length+1) cap2)) B d w.heap.size s r col g):=by
  obtain⟨c1,q1,q2⟩:=SW.out;exact HH.out.waits YY.out hk q1 q2
 clear hown kk hat hat' z1 z2 SW O4 c4 fd4;have hk1:g.e.kind≠1:=by omega
 clear hdv hdl;generalize w1.setCell ⟨d,4,none⟩ (.slice (some ⟨g2,0,none⟩) (r.wl.length+1) cap2)=w0 at TT ⊢;obtain⟨r1,c1,tl⟩:=TT.out;have c0:w0.cell? ⟨g.eb,0,none⟩=some (.int .i64 (s.given+1)):=tl.en.en.c0;have d1:=tl.dk.c1;have f1:=tl.dk.fz 1;obtain⟨m,s1,s2,w3,hrun,r2,c2,t2⟩:=tl.store HH.out;have T2:=a0b t2;clear tl t2
 go_upto_region 9 with fail
 generalize w0.setCell ⟨d,1,none⟩ (.int .i64 (s.given+1))=T1 at s1 s2 hrun ⊢;clear c0 d1 f1
 go_big_region
 clear hrun s1 s2;obtain⟨e1,e2,e3⟩:=T2.out.dk.en _ T2.out.mem;have k0:w3.cell? ⟨g.eb,0,none⟩=some (.int .i64 (s.given+1)):=e1.en.c0;have k1:w3.cell? ⟨g.eb,1,none⟩=some (.int .i64 g.e.kind):=e1.k;have k5:w3.cell? ⟨g.eb,5,none⟩=some (.int .i64 g.e.a0Z):=e1.u;clear e1 e2 e3;have hkb1:(g.e.kind != 1)=true:=by simpa using hk1
 have PU:=a0b (fun wx (k:Below w3.heap.size w3 wx)=>b7i (T2.out.dk.later k) (by rw[T2.out.hl];exact HH.out.ds.hl.1) (by rw[T2.out.hl];exact HN.out) (g.num (s.given+1)))
 go_upto_region 11 with fail
 go_region_held3 (fun w'=>w'.cell? ⟨g.eb,0,none⟩=some (.int .i64 (s.given+1))/\w'.cell? ⟨g.eb,5,none⟩=some (.int .i64 g.e.a0Z))
  (first
   |exact⟨k0,k5⟩
   |exact⟨((p3.en _ T2.out.mem).1).en.c0,((p3.en _ T2.out.mem).1).u⟩)
  (first
   |(go_at_call 198;refine (PU.out _ (a0q w3)).mono ?_;rintro e w4 ⟨rfl,l',c3,p1,p2,p3,p4⟩))
 have k04:w4.cell? ⟨g.eb,0,none⟩=some (.int .i64 (s.given+1)):=((p3.en _ T2.out.mem).1).en.c0;have hq:=p4.blockN T2.out.ql T2.out.qc T2.out.ql
 have HF:Hid (a1n w B d col (a1N s g.e) (a0s 0 0 (s.given+1) (.slice none 0 0) (.slice none 0 0) (.slice none 0 0) (.slice none 0 0)) (a2w w4 w.heap.size (.int .i64 0) (.int .i64 0) (.int .i64 (s.given+1)) (.slice none 0 0) (.slice none 0 0) (.slice none 0 0) (.slice none 0 0))):=by
  rw[HD.out];have X2:=T2.out;have o:=X2.of;refine a4v p3 ⟨o.now,o.given,o.ts,o.es,o.th,o.tb⟩ X2.wl ?_ ((X2.st.trans (Step.below (a0q w3))).trans (p4.any (Nat.le_trans HH.out.hB X2.st.size))) HH.out.hB (p4.keepN X2.qc X2.ql) 0 (s.given+1) _ _ _ _ _ _ _;have hh:=HH.out.ds.hl.comes (g:=g.num (s.given+1)) hk1 p1 (by rw[<- X2.hl];exact p2);unfold Hl at hh ⊢;show _/\List.Perm l' ((r2.eg.filter _).map _);rw[X2.eg];exact hh
 clear p1 p2 p3 p4 PU k0 k1 k5;obtain⟨q0,q1,q2,q3,q4,q5,q6,fq⟩:=T2.out.q7.later hq
 go_wp2_with fail
 exact d0O Tryz.results144 ⟨q0,q1,q2,q3,q4,q5,q6,fq⟩ ⟨_,rfl,HF.out⟩
theorem a9B{g:EG}(h:b4h w B d s r col g i):
  Calls Tryz.prog 144 #[.pointer (some ⟨d,0,none⟩),.pointer (some ⟨g.eb,0,none⟩)] w fun e w'=>∃ v,e=.returned v/\a1n w B d col (a1N s g.e) v w':=by
 by_cases hf:s.given=60\/g.e.kind=3/\Desk.a1Y s.es=6
 ·exact b8G h.ds h.en h.hB hf
 ·have hg1:=h.ds.inv.g1;have hwa:=h.ds.inv.wa;have hwn:=h.ds.wl.a1Y h.ds.of
  by_cases hk:g.e.kind=3
  ·exact b8E h (by omega) hk (by omega)
  ·exact b8F h (by omega) hk
theorem a5W(h:a1c s name u fr til≠0):Desk.a0g s (.enter k name u fr til long)=(s,Desk.Rep.error (a1c s name u fr til)):=by
 have e:Desk.a1M s k name u fr til long=a1c s name u fr til:=by
  unfold Desk.a1M a1c at *
  by_cases h1:Desk.a0S s.ts name u≠0
  ·rw[if_pos h1,if_pos h1]
  ·rw[if_neg h1] at h ⊢;rw[if_neg h1]
   by_cases h2:til<=fr
   ·rw[if_pos h2,if_pos (.inl h2)]
   ·rw[if_neg h2] at h;omega
 simp only[Desk.a0g,e];rw[if_pos h]
theorem a1E(h:a1c s name u fr til=0):Desk.a0S s.ts name u=0/\fr<til:=by
 unfold a1c at h
 by_cases h1:Desk.a0S s.ts name u≠0
 ·rw[if_pos h1] at h;omega
 ·rw[if_neg h1] at h
  by_cases h2:til<=fr
  ·rw[if_pos h2] at h;omega
  ·omega
theorem a9H(h:a1c s name u fr til=0)(hl:1048320<s.now+long):Desk.a0g s (.enter k name u fr til long)=(s,Desk.Rep.error 6):=by
 obtain⟨h1,h2⟩:=a1E h
 have e:Desk.a1M s k name u fr til long=6:=by
  unfold Desk.a1M;rw[if_neg (by omega),if_pos (.inr hl)]
 simp only[Desk.a0g,e];rw[if_pos (by omega)]
theorem b0W(h:a1c s name u fr til=0)(hl:s.now+long<=1048320):Desk.a0g s (.enter k name u fr til long)=a1N s (Desk.a8p s k name u fr til long):=by
 obtain⟨h1,h2⟩:=a1E h;simp only[Desk.a0g];unfold Desk.a1M a1N;rw[if_neg (c:=Desk.a0S s.ts name u≠0) (by omega),if_neg (c:=til<=fr\/1048320<s.now+long) (by omega)];have ek:(Desk.a8p s k name u fr til long).kind=k:=rfl;have et:(Desk.a8p s k name u fr til long).a0k=name:=rfl;have eu:(Desk.a8p s k name u fr til long).a0c=u:=rfl;have es:(Desk.a8p s k name u fr til long).a0e=[(fr,til)]:=rfl;rw[ek,et,eu,es]
 by_cases h3:s.given=60
 ·simp[h3]
 ·by_cases h4:k=3
  ·by_cases h5:Desk.a1Y s.es=6
   ·simp[h3,h4,h5]
   ·simp[h3,h4,h5]
  ·cases Desk.a1e s.ts s.es name u [(fr,til)] <;> simp[h3,h4]
def c7l(k:Int)(name:ByteArray)(u fr til un:Int)(N tb:Nat):EG:=⟨⟨0,k,name,u,[(fr,til)],un⟩,N+1,N,1,tb⟩
theorem DSt.asks(h:DSt w d s r col)(kb:Below w.heap.size w w1){un:Int}(hi:i<r.tg.length)(hname:r.tg[i].name=name)(ok:a1H s.now ⟨0,k,name,u,[(fr,til)],un⟩):
  b4h ((w1.alloc (.cells #[.int .i64 fr,.int .i64 til] 60)).alloc (.cells #[.int .i64 0,.int .i64 k,.pointer (some ⟨r.tg[i].tb,0,none⟩),.int .i64 u,.slice (some ⟨w1.heap.size,0,none⟩) 1 1,.int .i64 un] 200)) w1.heap.size d s r col (c7l k name u fr til un w1.heap.size r.tg[i].tb) i:=by
 have kz:Below w1.heap.size w1 ((w1.alloc (.cells #[.int .i64 fr,.int .i64 til] 60)).alloc (.cells #[.int .i64 0,.int .i64 k,.pointer (some ⟨r.tg[i].tb,0,none⟩),.int .i64 u,.slice (some ⟨w1.heap.size,0,none⟩) 1 1,.int .i64 un] 200)):=((zr _ _).alloc (zq _) _).alloc (by simp) _;have d1:=h.dk.later kb
 have eb:((w1.alloc (.cells #[.int .i64 fr,.int .i64 til] 60)).alloc (.cells #[.int .i64 0,.int .i64 k,.pointer (some ⟨r.tg[i].tb,0,none⟩),.int .i64 u,.slice (some ⟨w1.heap.size,0,none⟩) 1 1,.int .i64 un] 200)).heap[w1.heap.size+1]?=some (.cells #[.int .i64 0,.int .i64 k,.pointer (some ⟨r.tg[i].tb,0,none⟩),.int .i64 u,.slice (some ⟨w1.heap.size,0,none⟩) 1 1,.int .i64 un] 200 (0,0)):=by
  have:=a0p (w1.alloc (.cells #[.int .i64 fr,.int .i64 til] 60)) (.cells #[.int .i64 0,.int .i64 k,.pointer (some ⟨r.tg[i].tb,0,none⟩),.int .i64 u,.slice (some ⟨w1.heap.size,0,none⟩) 1 1,.int .i64 un] 200)
  rwa [World.size_alloc] at this
 have sb:((w1.alloc (.cells #[.int .i64 fr,.int .i64 til] 60)).alloc (.cells #[.int .i64 0,.int .i64 k,.pointer (some ⟨r.tg[i].tb,0,none⟩),.int .i64 u,.slice (some ⟨w1.heap.size,0,none⟩) 1 1,.int .i64 un] 200)).heap[w1.heap.size]?=some (.cells #[.int .i64 fr,.int .i64 til] 60 (0,0)) :=
  (Below.heap_alloc _ _ _ (by simp)).trans (a0p w1 _)
 have hs:((w1.alloc (.cells #[.int .i64 fr,.int .i64 til] 60)).alloc (.cells #[.int .i64 0,.int .i64 k,.pointer (some ⟨r.tg[i].tb,0,none⟩),.int .i64 u,.slice (some ⟨w1.heap.size,0,none⟩) 1 1,.int .i64 un] 200)).heap.size=w1.heap.size+2:=by simp
 generalize (w1.alloc (.cells #[.int .i64 fr,.int .i64 til] 60)).alloc (.cells #[.int .i64 0,.int .i64 k,.pointer (some ⟨r.tg[i].tb,0,none⟩),.int .i64 u,.slice (some ⟨w1.heap.size,0,none⟩) 1 1,.int .i64 un] 200)=Z at *;refine⟨⟨d1.later kz,h.of,h.wl,h.hl,h.inv⟩,⟨⟨?_,?_,?_,?_,fun j hj=>?_,?_⟩,?_,?_,fun o=>frozen_of_row _ _ _ _ _ eb,⟨_,eb⟩⟩,d1.none (Nat.le_succ _),d1.none (zq _),Nat.le_succ _,Nat.le_refl _,(by show w1.heap.size+1≠w1.heap.size;omega),kz.size,hi,hname,rfl,ok⟩
 ·show Z.cell? ⟨w1.heap.size+1,0,none⟩=_;simp only[World.cell?,eb];rfl
 ·show Z.cell? ⟨w1.heap.size+1,2,none⟩=_;simp only[World.cell?,eb];rfl
 ·show Z.cell? ⟨w1.heap.size+1,3,none⟩=_;simp only[World.cell?,eb];rfl
 ·show Z.cell? ⟨w1.heap.size+1,4,none⟩=_;simp only[World.cell?,eb];rfl
 ·have hj0:j=0:=by simp[c7l] at hj;omega
  subst hj0;constructor
  ·show Z.cell? ⟨w1.heap.size,0,none⟩=_;simp only[World.cell?,sb];rfl
  ·show Z.cell? ⟨w1.heap.size,1,none⟩=_;simp only[World.cell?,sb];rfl
 ·show w1.heap.size<_;omega
 ·show Z.cell? ⟨w1.heap.size+1,1,none⟩=_;simp only[World.cell?,eb];rfl
 ·show Z.cell? ⟨w1.heap.size+1,5,none⟩=_;simp only[World.cell?,eb];rfl
theorem a1n.ans{w2:World}{q:St × Desk.Rep}(h:a1n Z B d col q v w2)(st:Step anyS w.heap.size col col w Z)(hB:w.heap.size<=B)(hQ:w.heap.size<=Q)(hQB:Q<B)(hc:col Q=none)(h7:Q7 Z Q):
  ∃ er n:Int,v=a0s er 0 n (.slice none 0 0) (.slice none 0 0) (.slice none 0 0) (.slice none 0 0)/\Q7 w2 Q/\∀ a b c e f g i,a0l w d col q (a0s er 0 n (.slice none 0 0) (.slice none 0 0) (.slice none 0 0) (.slice none 0 0)) (a2w w2 Q a b c e f g i):=by
 obtain⟨er,n,r',col',rfl,e2,k1,k2,k3,k4,k5⟩:=h;have hl:=World.block_lt_of_cell? _ _ h7.q0;refine⟨er,n,rfl,h7.later (k5.blockN hl hc hQB),fun a b c e f g i=>?_⟩;have:q=(q.1,⟨er,0,n,[],[],[],[]⟩):=by rw[<- e2]
 rw[this];exact a5O k1 k2 k3 k4 (st.trans (k5.any hB)) hQ (k5.keepN hc hQB) er n a b c e f g i
theorem c3F(h:DSt w d s r col)(name:ByteArray)(hn:name.size<=1000)(u fr til:Int)(hl:Desk.a1O (.enter 1 name u fr til 0)):
  Calls Tryz.prog 92 #[.pointer (some ⟨d,0,none⟩),.agg #[.string name,.int .i64 u,.int .i64 fr,.int .i64 til]] w fun e w'=>∃ v,e=.returned v/\a0l w d col (Desk.a0g s (.enter 1 name u fr til 0)) v w':=by
 obtain⟨hX,hXQ,hXb,hNX⟩:=e2v w (.cells #[.string name,.int .i64 u,.int .i64 fr,.int .i64 til] 154);have AK:=a0b (a4e (h.dk.later hX) h.of h.mid name hn u fr til);have HH:=a0b h;have HX:=a0b (And.intro hX hXQ);have xa:=d0h hXb 0 rfl;have xb:=d0h hXb 1 rfl;have xc:=d0h hXb 2 rfl;have xd:=d0h hXb 3 rfl;clear h hX hXQ hXb
 go_enter Tryz.func92,Tryz.ntmps92
 go_upto_region 1 with fail
 change Code.wp _ _ _ _ ((w.alloc (.cells #[.string name,.int .i64 u,.int .i64 fr,.int .i64 til] 154)).alloc a0f);generalize (w.alloc (.cells #[.string name,.int .i64 u,.int .i64 fr,.int .i64 til] 154)).alloc a0f=X at *
 go_wp2_with fail
 refine AK.out.mono ?_;rintro e w1 ⟨hp,hb⟩;have BX:Hid (Below w.heap.size w w1):=HX.out.1.trans (hb.mono HX.out.1.size);have QX:Hid (Q7 w1 (w.heap.size+1)):=(Q7.of HX.out.2).later (hb.block _ hNX);rcases hp with ⟨h1,rfl⟩|⟨h1,i,hi,e1,e2,rfl⟩
 ·have HD:=a0b (a5W (k:=1) (long:=0) h1);generalize a1c s name u fr til=er at *;have hb1:(er != 0)=true:=by simpa using h1
  clear h1 AK HX hb xa xb xc xd
  go_wp2_with fail
  refine (a0D er w1).mono ?_;rintro e w2 ⟨rfl,hb2⟩;have HF:=a0b (HH.out.refuse BX.out QX.out hb2 HD.out);obtain⟨q0,q1,q2,q3,q4,q5,q6,fq⟩:=HF.out.1;simp only[a0s]
  go_wp2_with fail
  exact d0O Tryz.results92 ⟨q0,q1,q2,q3,q4,q5,q6,fq⟩ ⟨_,rfl,HF.out.2⟩
 ·have HD:=a0b (b0W (k:=1) (long:=0) h1 (by have:=HH.out.inv.n1;omega));have y1:=(zo (w:=X) (a:=⟨w.heap.size,1,none⟩) (hb.block w.heap.size (by omega))).trans xb;have y2:=(zo (w:=X) (a:=⟨w.heap.size,2,none⟩) (hb.block w.heap.size (by omega))).trans xc;have y3:=(zo (w:=X) (a:=⟨w.heap.size,3,none⟩) (hb.block w.heap.size (by omega))).trans xd;have EN:=a0b (a9B (HH.out.asks BX.out (k:=1) (u:=u) (fr:=fr) (til:=til) (un:=0) hi e1 ⟨hl.2.1,hl.2.2.1,(by show 1<=40;omega),(by simp),(by intro q hq;have:q=(fr,til):=List.mem_singleton.1 hq;subst this;have:=(a1E h1).2;exact⟨hl.2.2.2.1,this,hl.2.2.2.2.2.2⟩),List.pairwise_singleton _ _,.inl ⟨rfl,rfl⟩⟩));have AL:Hid (Below w1.heap.size w1 ((w1.alloc (.cells #[.int .i64 fr,.int .i64 til] 60)).alloc (.cells #[.int .i64 0,.int .i64 1,.pointer (some ⟨r.tg[i].tb,0,none⟩),.int .i64 u,.slice (some ⟨w1.heap.size,0,none⟩) 1 1,.int .i64 0] 200))):=((zr _ _).alloc (zq _) _).alloc (by simp) _;have QL:Hid (w.heap.size+1<w1.heap.size):=World.block_lt_of_cell? _ _ QX.out.q0;clear h1 AK HX hb xa xb xc xd e1 e2
  go_wp2_with fail
  refine EN.out.mono ?_;rintro e w2 ⟨v,rfl,ep⟩;obtain⟨er,n,rfl,q7,hf⟩:=ep.ans (Q:=(w.heap.size+1)) (Step.below (BX.out.trans (AL.out.mono BX.out.size))) BX.out.size (by omega) QL.out (HH.out.dk.none (by omega)) (QX.out.later (AL.out.block _ QL.out))
  have HF:Hid (a0l w d col (Desk.a0g s (.enter 1 name u fr til 0)) (a0s er 0 n (.slice none 0 0) (.slice none 0 0) (.slice none 0 0) (.slice none 0 0)) (a2w w2 (w.heap.size+1) (.int .i64 er) (.int .i64 0) (.int .i64 n) (.slice none 0 0) (.slice none 0 0) (.slice none 0 0) (.slice none 0 0))):=by
   rw[HD.out];exact hf _ _ _ _ _ _ _
  clear ep hf EN;obtain⟨q0,q1,q2,q3,q4,q5,q6,fq⟩:=q7;simp only[a0s]
  go_wp2_with fail
  exact d0O Tryz.results92 ⟨q0,q1,q2,q3,q4,q5,q6,fq⟩ ⟨_,rfl,HF.out⟩
theorem a8g(h:DSt w d s r col)(k:Int)(hk:k=2\/k=3)(name:ByteArray)(hn:name.size<=1000)(u fr til long:Int)(hl:Desk.a1O (.enter k name u fr til long)):
  Calls Tryz.prog 145 #[.pointer (some ⟨d,0,none⟩),.int .i64 k,.agg #[.string name,.int .i64 u,.int .i64 fr,.int .i64 til],.int .i64 long] w fun e w'=>∃ v,e=.returned v/\a0l w d col (Desk.a0g s (.enter k name u fr til long)) v w':=by
 obtain⟨hX,hXQ,hXb,hNX⟩:=e2v w (.cells #[.string name,.int .i64 u,.int .i64 fr,.int .i64 til] 151);have x0:=d0h hXb 0 rfl;have x1:=d0h hXb 1 rfl;have x2:=d0h hXb 2 rfl;have x3:=d0h hXb 3 rfl;have AK:=a0b (a4e (h.dk.later hX) h.of h.mid name hn u fr til);have HH:=a0b h;have HX:=a0b (And.intro hX hXQ);clear h hX hXQ hXb
 go_enter Tryz.func145,Tryz.ntmps145
 go_upto_region 1 with fail
 change Code.wp _ _ _ _ ((w.alloc (.cells #[.string name,.int .i64 u,.int .i64 fr,.int .i64 til] 151)).alloc a0f);generalize (w.alloc (.cells #[.string name,.int .i64 u,.int .i64 fr,.int .i64 til] 151)).alloc a0f=X at *
 go_wp2_with fail
 refine AK.out.mono ?_;rintro e w1 ⟨hp,hb⟩;have BX:Hid (Below w.heap.size w w1):=HX.out.1.trans (hb.mono HX.out.1.size);have QX:Hid (Q7 w1 (w.heap.size+1)):=(Q7.of HX.out.2).later (hb.block _ hNX)
 have hlo:1<=long/\long<=1048320:=by
  rcases hl.1 with ⟨e,_⟩|⟨_,e⟩
  ·omega
  ·exact e
 rcases hp with ⟨h1,rfl⟩|⟨h1,i,hi,e1,e2,rfl⟩
 ·have HD:=a0b (a5W (k:=k) (long:=long) h1);generalize a1c s name u fr til=er at *;have hb1:(er != 0)=true:=by simpa using h1
  clear h1 AK HX hb x0 x1 x2 x3
  go_wp2_with fail
  refine (a0D er w1).mono ?_;rintro e w2 ⟨rfl,hb2⟩;have HF:=a0b (HH.out.refuse BX.out QX.out hb2 HD.out);obtain⟨q0,q1,q2,q3,q4,q5,q6,fq⟩:=HF.out.1;simp only[a0s]
  go_wp2_with fail
  exact d0O Tryz.results145 ⟨q0,q1,q2,q3,q4,q5,q6,fq⟩ ⟨_,rfl,HF.out.2⟩
 ·have cn:=(HH.out.dk.later BX.out).c0;rw[HH.out.of.now] at cn;have h0:=HH.out.inv.n0;have h9:=HH.out.inv.n1;have hw1:IntKind.i64.wrap (s.now+long)=s.now+long:=a0i (by omega) (by omega)
  by_cases hlate:1048320<s.now+long
  ·have HD:=a0b (a9H (k:=k) (long:=long) h1 hlate);clear h1 AK HX hb x0 x1 x2 x3 e1 e2
   go_wp2_with fail
   refine (a0D 6 w1).mono ?_;rintro e w2 ⟨rfl,hb2⟩;have HF:=a0b (HH.out.refuse BX.out QX.out hb2 HD.out);obtain⟨q0,q1,q2,q3,q4,q5,q6,fq⟩:=HF.out.1;simp only[a0s]
   go_wp2_with fail
   exact d0O Tryz.results145 ⟨q0,q1,q2,q3,q4,q5,q6,fq⟩ ⟨_,rfl,HF.out.2⟩
  ·have HD:Hid (Desk.a0g s (.enter k name u fr til long)=a1N s ⟨0,k,name,u,[(fr,til)],s.now+long⟩):=by
    rw[Hid,b0W (k:=k) (long:=long) h1 (by omega)];unfold Desk.a8p;rw[if_neg (by omega)]
   have y1:=(zo (w:=X) (a:=⟨w.heap.size,1,none⟩) (hb.block w.heap.size (by omega))).trans x1;have y2:=(zo (w:=X) (a:=⟨w.heap.size,2,none⟩) (hb.block w.heap.size (by omega))).trans x2;have y3:=(zo (w:=X) (a:=⟨w.heap.size,3,none⟩) (hb.block w.heap.size (by omega))).trans x3;have EN:=a0b (a9B (HH.out.asks BX.out (k:=k) (u:=u) (fr:=fr) (til:=til) (un:=s.now+long) hi e1 ⟨hl.2.1,hl.2.2.1,(by show 1<=40;omega),(by simp),(by intro q hq;have:q=(fr,til):=List.mem_singleton.1 hq;subst this;have:=(a1E h1).2;exact⟨hl.2.2.2.1,this,hl.2.2.2.2.2.2⟩),List.pairwise_singleton _ _,.inr ⟨hk,(by show s.now<s.now+long;omega),(by show s.now+long<=1048320;omega),rfl⟩⟩));have AL:Hid (Below w1.heap.size w1 ((w1.alloc (.cells #[.int .i64 fr,.int .i64 til] 60)).alloc (.cells #[.int .i64 0,.int .i64 k,.pointer (some ⟨r.tg[i].tb,0,none⟩),.int .i64 u,.slice (some ⟨w1.heap.size,0,none⟩) 1 1,.int .i64 (s.now+long)] 200))):=((zr _ _).alloc (zq _) _).alloc (by simp) _;have QL:Hid (w.heap.size+1<w1.heap.size):=World.block_lt_of_cell? _ _ QX.out.q0;clear h1 AK HX hb x0 x1 x2 x3 e1 e2
   go_wp2_with fail
   refine EN.out.mono ?_;rintro e w2 ⟨v,rfl,ep⟩;obtain⟨er,n,rfl,q7,hf⟩:=ep.ans (Q:=(w.heap.size+1)) (Step.below (BX.out.trans (AL.out.mono BX.out.size))) BX.out.size (by omega) QL.out (HH.out.dk.none (by omega)) (QX.out.later (AL.out.block _ QL.out))
   have HF:Hid (a0l w d col (Desk.a0g s (.enter k name u fr til long)) (a0s er 0 n (.slice none 0 0) (.slice none 0 0) (.slice none 0 0) (.slice none 0 0)) (a2w w2 (w.heap.size+1) (.int .i64 er) (.int .i64 0) (.int .i64 n) (.slice none 0 0) (.slice none 0 0) (.slice none 0 0) (.slice none 0 0))):=by
    rw[HD.out];exact hf _ _ _ _ _ _ _
   clear ep hf EN;obtain⟨q0,q1,q2,q3,q4,q5,q6,fq⟩:=q7;simp only[a0s]
   go_wp2_with fail
   exact d0O Tryz.results145 ⟨q0,q1,q2,q3,q4,q5,q6,fq⟩ ⟨_,rfl,HF.out⟩
theorem c3c(h:DSt w d s r col)(name:ByteArray)(hn:name.size<=1000)(u fr til long:Int)(hl:Desk.a1O (.enter 2 name u fr til long)):
  Calls Tryz.prog 93 #[.pointer (some ⟨d,0,none⟩),.agg #[.string name,.int .i64 u,.int .i64 fr,.int .i64 til,.int .i64 long]] w fun e w'=>∃ v,e=.returned v/\a0l w d col (Desk.a0g s (.enter 2 name u fr til long)) v w':=by
 obtain⟨hX,hXQ,hXb,hNX⟩:=e2v w (.cells #[.string name,.int .i64 u,.int .i64 fr,.int .i64 til,.int .i64 long] 156);have x0:=d0h hXb 0 rfl;have x1:=d0h hXb 1 rfl;have x2:=d0h hXb 2 rfl;have x3:=d0h hXb 3 rfl;have x4:=d0h hXb 4 rfl;have EF:=a0b (a8g (w:=((w.alloc (.cells #[.string name,.int .i64 u,.int .i64 fr,.int .i64 til,.int .i64 long] 156)).alloc a0f)) ⟨h.dk.later hX,h.of,h.wl,h.hl,h.inv⟩ 2 (by omega) name hn u fr til long hl);have HH:=a0b h;have HX:=a0b (And.intro hX hXQ);clear h hX hXQ hXb
 go_enter Tryz.func93,Tryz.ntmps93
 go_upto_region 1 with fail
 change Code.wp _ _ _ _ ((w.alloc (.cells #[.string name,.int .i64 u,.int .i64 fr,.int .i64 til,.int .i64 long] 156)).alloc a0f);generalize (w.alloc (.cells #[.string name,.int .i64 u,.int .i64 fr,.int .i64 til,.int .i64 long] 156)).alloc a0f=X at *
 go_wp2_with fail
 refine EF.out.mono ?_;rintro e w2 ⟨v,rfl,ep⟩;obtain⟨er,at_,n,a1,a2,a3,a4,n1,n2,n3,n4,c1,c2,c3,c4,rfl,q7,hf⟩:=ep.up HX.out.1 (Q:=w.heap.size+1) (by omega) hNX (HH.out.dk.none (by omega)) (Q7.of HX.out.2);have HF:=a0b (hf (.int .i64 er) (.int .i64 at_) (.int .i64 n) (.slice a1 n1 c1) (.slice a2 n2 c2) (.slice a3 n3 c3) (.slice a4 n4 c4));clear ep hf EF x0 x1 x2 x3 x4;obtain⟨q0,q1,q2,q3,q4,q5,q6,fq⟩:=q7;simp only[a0s]
 go_wp2_with fail
 exact d0O Tryz.results93 ⟨q0,q1,q2,q3,q4,q5,q6,fq⟩ ⟨_,rfl,HF.out⟩
theorem c1W(h:DSt w d s r col)(name:ByteArray)(hn:name.size<=1000)(u fr til long:Int)(hl:Desk.a1O (.enter 3 name u fr til long)):
  Calls Tryz.prog 94 #[.pointer (some ⟨d,0,none⟩),.agg #[.string name,.int .i64 u,.int .i64 fr,.int .i64 til,.int .i64 long]] w fun e w'=>∃ v,e=.returned v/\a0l w d col (Desk.a0g s (.enter 3 name u fr til long)) v w':=by
 obtain⟨hX,hXQ,hXb,hNX⟩:=e2v w (.cells #[.string name,.int .i64 u,.int .i64 fr,.int .i64 til,.int .i64 long] 157);have x0:=d0h hXb 0 rfl;have x1:=d0h hXb 1 rfl;have x2:=d0h hXb 2 rfl;have x3:=d0h hXb 3 rfl;have x4:=d0h hXb 4 rfl;have EF:=a0b (a8g (w:=((w.alloc (.cells #[.string name,.int .i64 u,.int .i64 fr,.int .i64 til,.int .i64 long] 157)).alloc a0f)) ⟨h.dk.later hX,h.of,h.wl,h.hl,h.inv⟩ 3 (by omega) name hn u fr til long hl);have HH:=a0b h;have HX:=a0b (And.intro hX hXQ);clear h hX hXQ hXb
 go_enter Tryz.func94,Tryz.ntmps94
 go_upto_region 1 with fail
 change Code.wp _ _ _ _ ((w.alloc (.cells #[.string name,.int .i64 u,.int .i64 fr,.int .i64 til,.int .i64 long] 157)).alloc a0f);generalize (w.alloc (.cells #[.string name,.int .i64 u,.int .i64 fr,.int .i64 til,.int .i64 long] 157)).alloc a0f=X at *
 go_wp2_with fail
 refine EF.out.mono ?_;rintro e w2 ⟨v,rfl,ep⟩;obtain⟨er,at_,n,a1,a2,a3,a4,n1,n2,n3,n4,c1,c2,c3,c4,rfl,q7,hf⟩:=ep.up HX.out.1 (Q:=w.heap.size+1) (by omega) hNX (HH.out.dk.none (by omega)) (Q7.of HX.out.2);have HF:=a0b (hf (.int .i64 er) (.int .i64 at_) (.int .i64 n) (.slice a1 n1 c1) (.slice a2 n2 c2) (.slice a3 n3 c3) (.slice a4 n4 c4));clear ep hf EF x0 x1 x2 x3 x4;obtain⟨q0,q1,q2,q3,q4,q5,q6,fq⟩:=q7;simp only[a0s]
 go_wp2_with fail
 exact d0O Tryz.results94 ⟨q0,q1,q2,q3,q4,q5,q6,fq⟩ ⟨_,rfl,HF.out⟩
theorem DSt.levels(h:DSt w d s r col)(hi:i<r.tg.length):∀ p,0<=a1C r.tg[i].name s.es p/\a1C r.tg[i].name s.es p<=1000000:=fun p=>by
 have h1:=Desk.a7j r.tg[i].name p s.es h.mid.small;have h2:=a1x h.mid;omega
theorem c1l(h:DSt w d s r col)(k:Below w.heap.size w wx)(hi:i<r.tg.length){b:Int}(h0:0<=a)(h1:a<b)(h2:b<=1048320):
  Calls Tryz.prog 153 #[.pointer (some ⟨r.tg[i].tb,2,none⟩),.agg #[.int .i64 a,.int .i64 b]] wx fun e w'=>e=.returned (.int .i64 (Desk.a1Q r.tg[i].name s.es a b))/\Below wx.heap.size wx w':=by
 obtain⟨ul,us,Fl,Fs,t1,t2⟩:=(h.dk.later k).th i hi;have hA:=h.levels hi;have e:=Desk.c0m (name:=r.tg[i].name) h.mid.small (a6d h.mid) h0 h1 h2;unfold b4T at e;have lv:=t1.lv;rw[(h.of.th i hi).1] at lv;refine (b7x (b1M (a1C r.tg[i].name s.es)) _ 2 ul Fl a b wx t1.c2 lv (a9e hA) (a6L (fun p=>(hA p).1)) h1).mono ?_;rintro e2 w' ⟨rfl,hb⟩;exact⟨by rw[<- e],hb⟩
theorem c1k(h:DSt w d s r col)(k:Below w.heap.size w wx)(hi:i<r.tg.length){b:Int}(h0:0<=a)(h1:a<b)(h2:b<=1048320)(h3:1<=long)(h4:long<=1048320)(hu:0<=u):
  Calls Tryz.prog 154 #[.pointer (some ⟨r.tg[i].tb,2,none⟩),.agg #[.int .i64 a,.int .i64 b],.int .i64 long,.int .i64 (r.tg[i].a0c-u)] wx fun e w'=>∃ q:Option Int,e=.returned (fmV q)/\Desk.a9A s.ts s.es r.tg[i].name u long a b=Desk.c3V q/\Below wx.heap.size wx w':=by
 obtain⟨ul,us,Fl,Fs,t1,t2⟩:=(h.dk.later k).th i hi;have hA:=h.levels hi;have lv:=t1.lv;rw[(h.of.th i hi).1] at lv
 have hun:Desk.a0h r.tg[i].name s.ts=r.tg[i].a0c:=by
  have e1:=a8G h.mid.tn (i:=i) (by rw[<- h.of.len];exact hi);rw[h.of.tsAt hi] at e1;exact e1
 refine (c3K (b1M (a1C r.tg[i].name s.es)) _ 2 ul Fl a b long (r.tg[i].a0c-u) wx t1.c2 lv (a9e hA) (a6L (fun p=>(hA p).1)) h0 h1 h2 h3 h4).mono ?_;rintro e2 w' ⟨q,rfl,hq,hb⟩;rw[<- hun] at hq;exact⟨q,rfl,Desk.b9G h.mid.small (a6d h.mid) h0 h2 hu h3 hq,hb⟩
theorem b2e(hm:Mid s)(h:a1c s name 0 fr til≠0):Desk.a0g s (.peak name fr til)=(s,Desk.Rep.error (a1c s name 0 fr til)):=by
 have hn:=Desk.a4g hm.tu name;simp only[Desk.a0g];unfold a1c Desk.a0S at *
 by_cases h1:Desk.a0h name s.ts=0
 ·rw[if_pos h1];simp[h1]
 ·have h2:¬ (Desk.a0h name s.ts<0):=by omega
  simp only[h1,h2] at h ⊢
  by_cases h3:til<=fr
  ·simp[h3]
  ·simp[h3] at h
theorem c1a(h:a1c s name 0 fr til=0):Desk.a0g s (.peak name fr til)=(s,Desk.Rep.num (Desk.a1Q name s.es fr til)):=by
 obtain⟨h1,h2⟩:=a1E h;have h3:Desk.a0h name s.ts≠0:=fun e=>by unfold Desk.a0S at h1;rw[if_pos e] at h1;omega
 simp only[Desk.a0g];rw[if_neg h3,if_neg (by omega)]
theorem c5t(args:Array Value)(w:World):(callFunc 153 args).run Tryz.prog w=.ok (.enter 153 args) w:=by kernel_rfl
theorem c2D(h:DSt w d s r col)(name:ByteArray)(hn:name.size<=1000)(fr til:Int)(hl:Desk.a1O (.peak name fr til)):
  Calls Tryz.prog 100 #[.pointer (some ⟨d,0,none⟩),.agg #[.string name,.int .i64 fr,.int .i64 til]] w fun e w'=>∃ v,e=.returned v/\a0l w d col (Desk.a0g s (.peak name fr til)) v w':=by
 obtain⟨hX,hXQ,hXb,hNX⟩:=e2v w (.cells #[.string name,.int .i64 fr,.int .i64 til] 176);have x0:=d0h hXb 0 rfl;have x1:=d0h hXb 1 rfl;have x2:=d0h hXb 2 rfl;have AK:=a0b (a4e (h.dk.later hX) h.of h.mid name hn 0 fr til);have HH:=a0b h;have HX:=a0b (And.intro hX hXQ);clear h hX hXQ hXb
 go_enter Tryz.func100,Tryz.ntmps100
 go_upto_region 1 with fail
 change Code.wp _ _ _ _ ((w.alloc (.cells #[.string name,.int .i64 fr,.int .i64 til] 176)).alloc a0f);generalize (w.alloc (.cells #[.string name,.int .i64 fr,.int .i64 til] 176)).alloc a0f=X at *
 go_wp2_with fail
 refine AK.out.mono ?_;rintro e w1 ⟨hp,hb⟩;have BX:Hid (Below w.heap.size w w1):=HX.out.1.trans (hb.mono HX.out.1.size);have QX:Hid (Q7 w1 (w.heap.size+1)):=(Q7.of HX.out.2).later (hb.block _ hNX);rcases hp with ⟨h1,rfl⟩|⟨h1,i,hi,e1,e2,rfl⟩
 ·have HD:=a0b (b2e HH.out.mid h1);generalize a1c s name 0 fr til=er at *;have hb1:(er != 0)=true:=by simpa using h1
  clear h1 AK HX hb x0 x1 x2
  go_wp2_with fail
  refine (a0D er w1).mono ?_;rintro e w2 ⟨rfl,hb2⟩;have HF:=a0b (HH.out.refuse BX.out QX.out hb2 HD.out);obtain⟨q0,q1,q2,q3,q4,q5,q6,fq⟩:=HF.out.1;simp only[a0s]
  go_wp2_with fail
  exact d0O Tryz.results100 ⟨q0,q1,q2,q3,q4,q5,q6,fq⟩ ⟨_,rfl,HF.out.2⟩
 ·have HD:=a0b (c1a h1);have y1:=(zo (w:=X) (a:=⟨w.heap.size,1,none⟩) (hb.block w.heap.size (by omega))).trans x1;have y2:=(zo (w:=X) (a:=⟨w.heap.size,2,none⟩) (hb.block w.heap.size (by omega))).trans x2;have MC:=a0b (c1l HH.out (wx:=w1.drew) BX.out.drew hi hl.1 (a1E h1).2 hl.2.2.2);rw[e1] at MC;have AF:Hid (∀ w2,Below w1.drew.heap.size w1.drew w2->Q7 w2 (w.heap.size+1)/\a0l w d col (Desk.a0g s (.peak name fr til)) (a0s 0 0 (Desk.a1Q name s.es fr til) (.slice none 0 0) (.slice none 0 0) (.slice none 0 0) (.slice none 0 0)) (a2w w2 (w.heap.size+1) (.int .i64 0) (.int .i64 0) (.int .i64 (Desk.a1Q name s.es fr til)) (.slice none 0 0) (.slice none 0 0) (.slice none 0 0) (.slice none 0 0))):=fun w2 k2=>⟨QX.out.later (k2.block _ (World.block_lt_of_cell? _ _ QX.out.q0)),by rw[HD.out];exact HH.out.said (BX.out.drew.trans (k2.mono BX.out.size)) (by omega) 0 (Desk.a1Q name s.es fr til) _ _ _ _ _ _ _⟩
  clear h1 AK HX hb x0 x1 x2 e1 e2 HD;generalize (Desk.a1Q name s.es fr til)=nn at *
  go_upto_region 4 with fail
  go_region_law (first
   |(refine a2k (by rfl) 153 _ _ (by rfl) _ (by simp[Act.eval]) (c5t _ _) MC.out ?_;rintro e w2 ⟨rfl,hb2⟩;refine⟨_,rfl,?_⟩;have FF:=a0b (AF.out w2 hb2);obtain⟨⟨q0,q1,q2,q3,q4,q5,q6,fq⟩,_⟩:=AF.out w2 hb2))
  all_goals
   go_wp2_with fail
   exact d0O Tryz.results100 ⟨q0,q1,q2,q3,q4,q5,q6,fq⟩ ⟨_,rfl,FF.out.2⟩
theorem b2f(h:a1c s name u fr til≠0):Desk.a0g s (.find name u long fr til)=(s,Desk.Rep.error (a1c s name u fr til)):=by
 simp only[Desk.a0g];unfold a1c at *
 by_cases h1:Desk.a0S s.ts name u≠0
 ·rw[if_pos h1,if_pos h1]
 ·rw[if_neg h1] at h ⊢;rw[if_neg h1]
  by_cases h3:til<=fr
  ·rw[if_pos h3,if_pos h3]
  ·rw[if_neg h3] at h;omega
theorem c1b(h:a1c s name u fr til=0):Desk.a0g s (.find name u long fr til)=(s,Desk.Rep.num (Desk.a9A s.ts s.es name u long fr til)):=by
 obtain⟨h1,h2⟩:=a1E h;simp only[Desk.a0g];rw[if_neg (by omega),if_neg (by omega)]
theorem c3j(h:DSt w d s r col)(name:ByteArray)(hn:name.size<=1000)(u long fr til:Int)(hl:Desk.a1O (.find name u long fr til)):
  Calls Tryz.prog 101 #[.pointer (some ⟨d,0,none⟩),.agg #[.string name,.int .i64 u,.int .i64 long,.int .i64 fr,.int .i64 til]] w fun e w'=>∃ v,e=.returned v/\a0l w d col (Desk.a0g s (.find name u long fr til)) v w':=by
 obtain⟨hX,hXQ,hXb,hNX⟩:=e2v w (.cells #[.string name,.int .i64 u,.int .i64 long,.int .i64 fr,.int .i64 til] 178);have x0:=d0h hXb 0 rfl;have x1:=d0h hXb 1 rfl;have x2:=d0h hXb 2 rfl;have x3:=d0h hXb 3 rfl;have x4:=d0h hXb 4 rfl;have AK:=a0b (a4e (h.dk.later hX) h.of h.mid name hn u fr til);have HH:=a0b h;have HX:=a0b (And.intro hX hXQ);clear h hX hXQ hXb
 go_enter Tryz.func101,Tryz.ntmps101
 go_upto_region 1 with fail
 change Code.wp _ _ _ _ ((w.alloc (.cells #[.string name,.int .i64 u,.int .i64 long,.int .i64 fr,.int .i64 til] 178)).alloc a0f);generalize (w.alloc (.cells #[.string name,.int .i64 u,.int .i64 long,.int .i64 fr,.int .i64 til] 178)).alloc a0f=X at *
 go_wp2_with fail
 refine AK.out.mono ?_;rintro e w1 ⟨hp,hb⟩;have BX:Hid (Below w.heap.size w w1):=HX.out.1.trans (hb.mono HX.out.1.size);have QX:Hid (Q7 w1 (w.heap.size+1)):=(Q7.of HX.out.2).later (hb.block _ hNX);rcases hp with ⟨h1,rfl⟩|⟨h1,i,hi,e1,e2,rfl⟩
 ·have HD:=a0b (b2f (long:=long) h1);generalize a1c s name u fr til=er at *;have hb1:(er != 0)=true:=by simpa using h1
  clear h1 AK HX hb x0 x1 x2 x3 x4
  go_wp2_with fail
  refine (a0D er w1).mono ?_;rintro e w2 ⟨rfl,hb2⟩;have HF:=a0b (HH.out.refuse BX.out QX.out hb2 HD.out);obtain⟨q0,q1,q2,q3,q4,q5,q6,fq⟩:=HF.out.1;simp only[a0s]
  go_wp2_with fail
  exact d0O Tryz.results101 ⟨q0,q1,q2,q3,q4,q5,q6,fq⟩ ⟨_,rfl,HF.out.2⟩
 ·have HD:=a0b (c1b (long:=long) h1);have y1:=(zo (w:=X) (a:=⟨w.heap.size,1,none⟩) (hb.block w.heap.size (by omega))).trans x1;have y2:=(zo (w:=X) (a:=⟨w.heap.size,2,none⟩) (hb.block w.heap.size (by omega))).trans x2;have y3:=(zo (w:=X) (a:=⟨w.heap.size,3,none⟩) (hb.block w.heap.size (by omega))).trans x3;have y4:=(zo (w:=X) (a:=⟨w.heap.size,4,none⟩) (hb.block w.heap.size (by omega))).trans x4;obtain⟨ul,us,Fl,Fs,t1,t2⟩:=(HH.out.dk.later BX.out).th i hi;have cu:=t1.c1
  have hu9:1<=r.tg[i].a0c/\r.tg[i].a0c<=9:=by
   have hin:(r.tg[i].name,r.tg[i].a0c)∈s.ts:=by rw[<- HH.out.of.tsAt hi];exact zg _
   exact HH.out.inv.tu _ hin
  have hw1:IntKind.i64.wrap (r.tg[i].a0c-u)=r.tg[i].a0c-u:=a0i (by have:=hl.1;have:=hl.2.1;omega) (by have:=hl.1;omega);have RC:=a0b (c1k HH.out (wx:=w1.drew) BX.out.drew (u:=u) hi hl.2.2.2.2.1 (a1E h1).2 hl.2.2.2.2.2.2.2 hl.2.2.1 hl.2.2.2.1 (by have:=hl.1;omega));rw[e1] at RC
  have RD:Hid (Calls Tryz.prog 154 #[.pointer (some ⟨r.tg[i].tb,2,none⟩),.agg #[.int .i64 fr,.int .i64 til],.int .i64 long,.int .i64 (r.tg[i].a0c-u)] w1.drew fun e w'=>∃ (x:Int) (bq:Bool),e=.returned (.tuple #[.int .i64 x,.bool bq])/\Desk.a9A s.ts s.es name u long fr til=(if bq then x else -1)/\Below w1.drew.heap.size w1.drew w'):=by
   refine RC.out.mono ?_;rintro e w' ⟨q,rfl,hq,hb2⟩
   cases q with
   |none=>exact⟨0,false,rfl,hq,hb2⟩
   |some x=>exact⟨x,true,rfl,hq,hb2⟩
  have AF:Hid (∀ w2 nn,Below w1.drew.heap.size w1.drew w2->(Desk.a9A s.ts s.es name u long fr til)=nn->Q7 w2 (w.heap.size+1)/\a0l w d col (Desk.a0g s (.find name u long fr til)) (a0s 0 0 nn (.slice none 0 0) (.slice none 0 0) (.slice none 0 0) (.slice none 0 0)) (a2w w2 (w.heap.size+1) (.int .i64 0) (.int .i64 0) (.int .i64 nn) (.slice none 0 0) (.slice none 0 0) (.slice none 0 0) (.slice none 0 0))):=fun w2 nn k2 e=>⟨QX.out.later (k2.block _ (World.block_lt_of_cell? _ _ QX.out.q0)),by rw[HD.out,<- e];exact HH.out.said (BX.out.drew.trans (k2.mono BX.out.size)) (by omega) 0 (Desk.a9A s.ts s.es name u long fr til) _ _ _ _ _ _ _⟩
  clear h1 AK HX hb x0 x1 x2 x3 x4 e1 e2 HD t1 t2 hu9 RC;generalize r.tg[i].a0c=un at *;generalize r.tg[i].tb=tb at *
  go_upto_region 4 with fail
  have AC:Hid (∀ w2,Below w1.drew.heap.size w1.drew w2->w2.cell? ⟨w.heap.size,1,none⟩=some (.int .i64 u)/\w2.cell? ⟨w.heap.size,2,none⟩=some (.int .i64 long)/\w2.cell? ⟨w.heap.size,3,none⟩=some (.int .i64 fr)/\w2.cell? ⟨w.heap.size,4,none⟩=some (.int .i64 til)/\w2.cell? ⟨tb,1,none⟩=some (.int .i64 un)):=fun w2 k=>⟨a0a k y1,a0a k y2,a0a k y3,a0a k y4,a0a k cu⟩
  go_region_held3 (fun w'=>w'.cell? ⟨w.heap.size,1,none⟩=some (.int .i64 u)/\w'.cell? ⟨w.heap.size,2,none⟩=some (.int .i64 long)/\w'.cell? ⟨w.heap.size,3,none⟩=some (.int .i64 fr)/\w'.cell? ⟨w.heap.size,4,none⟩=some (.int .i64 til)/\w'.cell? ⟨tb,1,none⟩=some (.int .i64 un))
   (first
    |exact⟨y1,y2,y3,y4,cu⟩
    |exact AC.out _ hb2)
   (first
    |(go_at_call 154;refine RD.out.mono ?_;rintro e w2 ⟨x,bq,rfl,hq,hb2⟩))
  have HB:=a0b hb2
  cases bq
  all_goals
   have HQ:=a0b hq;clear hq hb2 AC y1 y2 y3 y4 cu
  ·have FF:=a0b (AF.out w2 (-1) HB.out HQ.out);obtain⟨⟨q0,q1,q2,q3,q4,q5,q6,fq⟩,_⟩:=AF.out w2 (-1) HB.out HQ.out;clear AF RD
   go_wp2_with fail
   exact d0O Tryz.results101 ⟨q0,q1,q2,q3,q4,q5,q6,fq⟩ ⟨_,rfl,FF.out.2⟩
  ·have FF:=a0b (AF.out w2 x HB.out HQ.out);obtain⟨⟨q0,q1,q2,q3,q4,q5,q6,fq⟩,_⟩:=AF.out w2 x HB.out HQ.out;clear AF RD
   go_wp2_with fail
   exact d0O Tryz.results101 ⟨q0,q1,q2,q3,q4,q5,q6,fq⟩ ⟨_,rfl,FF.out.2⟩
theorem a7b.ans{n:Int}(h:a7b w d s col n v w')(hle:s.now+n<=1048320):a0l w d col (Desk.a0g s (.tick n)) v w':=by
 obtain⟨r',col',vG,vE,rfl,k1,k2,k3,k4,k5,k6,k7,k8⟩:=h;refine⟨r',col',k1,k2,k3,k4,k5,.slice none 0 0,.slice none 0 0,vG,vE,[],?_,?_,a3j.nil _ _ _,?_,k6,k7,(fun b hb=>⟨(by simp[Value.ownBlock]),(by simp[Value.ownBlock]),k8 b hb,(by simp)⟩),fun b hb=>by cases hb⟩
 all_goals
  have hd:(Desk.a0g s (.tick n)).2.err=0/\(Desk.a0g s (.tick n)).2.at_=0/\(Desk.a0g s (.tick n)).2.n=s.now+n/\(Desk.a0g s (.tick n)).2.entries=[]/\(Desk.a0g s (.tick n)).2.days=[]:=by
   show ((if 1048320<s.now+n then _ else _:St × Desk.Rep)).2.err=0/\((if 1048320<s.now+n then _ else _:St × Desk.Rep)).2.at_=0/\((if 1048320<s.now+n then _ else _:St × Desk.Rep)).2.n=s.now+n/\((if 1048320<s.now+n then _ else _:St × Desk.Rep)).2.entries=[]/\((if 1048320<s.now+n then _ else _:St × Desk.Rep)).2.days=[];rw[if_neg (by omega)];exact⟨rfl,rfl,rfl,rfl,rfl⟩
 ·rw[hd.1,hd.2.1,hd.2.2.1]
 ·rw[hd.2.2.2.1];rfl
 ·rw[hd.2.2.2.2];exact a2I.nil _ _ _
theorem b9i(h:DSt w d s r col)(n:Int)(hn:1<=n/\n<=1048320)(hlate:1048320<s.now+n):
  Calls Tryz.prog 103 #[.pointer (some ⟨d,0,none⟩),.agg #[.int .i64 n]] w fun e w'=>∃ v,e=.returned v/\a0l w d col (Desk.a0g s (.tick n)) v w':=by
 obtain⟨hX,hXQ,hXb,_⟩:=e2v w (.cells #[.int .i64 n] 182);have x0:=d0h hXb 0 rfl;have c0:=(h.dk.later hX).c0;rw[h.of.now] at c0;have h0:=h.inv.n0;have h9:=h.inv.n1;have hw1:IntKind.i64.wrap (s.now+n)=s.now+n:=a0i (by omega) (by omega);have HH:=a0b h;have HX:=a0b (And.intro hX hXQ)
 have HD:Hid (Desk.a0g s (.tick n)=(s,Desk.Rep.error 6)):=by
  show (if 1048320<s.now+n then _ else _)=_;rw[if_pos hlate]
 clear h hX hXQ hXb
 go_enter Tryz.func103,Tryz.ntmps103
 go_upto_region 1 with fail
 change Code.wp _ _ _ _ ((w.alloc (.cells #[.int .i64 n] 182)).alloc a0f);generalize (w.alloc (.cells #[.int .i64 n] 182)).alloc a0f=X at *;have QX:Hid (Q7 X.drew (w.heap.size+1)):=Q7.of HX.out.2;have BX:Hid (Below w.heap.size w X.drew):=HX.out.1.drew;clear HX
 go_big_region
 clear c0 x0
 go_wp2_with fail
 refine (a0D 6 X.drew).mono ?_;rintro e w2 ⟨rfl,hb2⟩;have HF:=a0b (HH.out.refuse BX.out QX.out hb2 HD.out);obtain⟨q0,q1,q2,q3,q4,q5,q6,fq⟩:=HF.out.1;simp only[a0s]
 go_wp2_with fail
 exact d0O Tryz.results103 ⟨q0,q1,q2,q3,q4,q5,q6,fq⟩ ⟨_,rfl,HF.out.2⟩
theorem c2a(h:DSt w d s r col)(n:Int)(hn:1<=n/\n<=1048320):
  Calls Tryz.prog 103 #[.pointer (some ⟨d,0,none⟩),.agg #[.int .i64 n]] w fun e w'=>∃ v,e=.returned v/\a0l w d col (Desk.a0g s (.tick n)) v w':=by
 by_cases hle:s.now+n<=1048320
 ·refine (c1Z h.dk h.of h.wl h.hl h.inv n hn hle).mono ?_;rintro e w' ⟨v,rfl,hp⟩;exact⟨v,rfl,hp.ans hle⟩
 ·exact b9i h n hn (by omega)
theorem a7O:∀ (n:Nat)(lo hi:Int),Lev.canon n (fun _=>0) lo hi=.nil
 |0,_,_=>by simp[Lev.canon,Lev.mk,Lev.isNil]
 |n+1,lo,hi=>by
  simp only[Lev.canon];have h1:=a7O n lo (Lev.mid lo hi);have h2:=a7O n (Lev.mid lo hi) hi;rw[h1,h2];simp[Lev.mk,Lev.isNil]
theorem c0x:b1M (fun _=>0)=.nil:=a7O 20 0 1048320
theorem b2H{name:ByteArray}:∀ {es:List Ent},(∀ e∈es,ofB name e=false)->a1C name es=fun _=>0
 |[],_=>by funext p;rfl
 |e :: es,h=>by
  funext p
  have ih:=congrFun (b2H (name:=name) (es:=es) (fun x hx=>h x (List.mem_cons_of_mem _ hx))) p;simp only[a1C,h e List.mem_cons_self,ih];rfl
theorem Of.a0k(h:Of s r){tb:Nat}(hno:∀ t∈r.tg,t.name≠name):Of { s with ts:=s.ts++[(name,u)] } { r with tg:=r.tg++[⟨name,u,tb,fun _=>0,.nil⟩] }:=by
 have hof:∀ e∈s.es,ofB name e=false:=fun e he=>by
  obtain⟨g,hg,rfl⟩:=h.get he;obtain⟨i,hi,e1,e2⟩:=h.tb g hg;have:a0y g.e.a0k name=false:=a3d.2 (fun e3=>hno _ (zg hi) (by rw[e1,e3]));simp[ofB,this]
 refine⟨h.now,h.given,by show (r.tg++[_]).map _=_;rw[List.map_append,h.ts];rfl,h.es,fun i hi=>?_,fun g hg=>?_⟩
 ·have hi':i<r.tg.length+1:=by simpa using hi
  by_cases e:i<r.tg.length
  ·have e2:(r.tg++[(⟨name,u,tb,fun _=>0,.nil⟩:TG)])[i]'(by simpa using hi')=r.tg[i]:=List.getElem_append_left e;show (r.tg++[(⟨name,u,tb,fun _=>0,.nil⟩:TG)])[i].A=a1C (r.tg++[(⟨name,u,tb,fun _=>0,.nil⟩:TG)])[i].name s.es/\a2e (r.tg++[(⟨name,u,tb,fun _=>0,.nil⟩:TG)])[i].name s.es (atE r.eg) (r.tg++[(⟨name,u,tb,fun _=>0,.nil⟩:TG)])[i].T;rw[e2];exact h.th i e
  ·have e3:i=r.tg.length:=by omega
   subst e3;have e2:(r.tg++[(⟨name,u,tb,fun _=>0,.nil⟩:TG)])[r.tg.length]'(by simp)=⟨name,u,tb,fun _=>0,.nil⟩:=by simp
   show (r.tg++[(⟨name,u,tb,fun _=>0,.nil⟩:TG)])[r.tg.length].A=a1C (r.tg++[(⟨name,u,tb,fun _=>0,.nil⟩:TG)])[r.tg.length].name s.es/\a2e (r.tg++[(⟨name,u,tb,fun _=>0,.nil⟩:TG)])[r.tg.length].name s.es (atE r.eg) (r.tg++[(⟨name,u,tb,fun _=>0,.nil⟩:TG)])[r.tg.length].T;rw[e2];refine⟨(b2H hof).symm,List.Pairwise.nil,fun z=>?_⟩;constructor
   ·intro hz;simp[Avl.a0w] at hz
   ·rintro ⟨e,he,h1,_⟩;rw[hof e he] at h1;cases h1
 ·obtain⟨i,hi,e1,e2⟩:=h.tb g hg;have e3:(r.tg++[(⟨name,u,tb,fun _=>0,.nil⟩:TG)])[i]'(by simp;omega)=r.tg[i]:=List.getElem_append_left hi;refine⟨i,(by show i<(r.tg++[_]).length;simp;omega),?_,?_⟩
  ·exact (congrArg TG.name e3).trans e1
  ·exact e2.trans (congrArg TG.tb e3).symm
theorem b5R(h:b2r r.tg name=none):∀ t∈r.tg,t.name≠name:=by
 intro t ht e;rw[a3r] at h
 cases e2:r.tg.find? fun t=>a0y t.name name with
 |none=>exact (List.find?_eq_none.1 e2 t ht) (a4l.2 e)
 |some y=>rw[e2] at h;cases h
theorem DSt.newT(h:DSt w d s r col)(k:Below w.heap.size w w1)(hn:name.size<=1000)(ht:b2r r.tg name=none)(hl:r.tg.length<4)(h7:Q7 w1 (w.heap.size+1)):
  ∃ m,w1.cell? ⟨d,2,none⟩=some (.map (some m))/\∃ w3,(Instr.mapUpdate 137 (.map (some m)) (.string name) (.pointer (some ⟨w1.heap.size,0,none⟩))).run Tryz.prog (w1.alloc (.cells #[.string name,.int .i64 u,.pointer none,.pointer none] 243)).drew=.ok () w3/\Q7 w3 (w.heap.size+1)/\∀ a b c e f g i,a0l w d col ({ s with ts:=s.ts++[(name,u)] },Desk.Rep.num 0) (a0s 0 0 0 (.slice none 0 0) (.slice none 0 0) (.slice none 0 0) (.slice none 0 0)) (a2w w3 (w.heap.size+1) a b c e f g i):=by
 have d1:=h.dk.later k;have kz:Below w1.heap.size w1 (w1.alloc (.cells #[.string name,.int .i64 u,.pointer none,.pointer none] 243)).drew:=((zr _ _).alloc (zq _) _).drew;have d2:=d1.later kz;have hb:=a0p w1 (.cells #[.string name,.int .i64 u,.pointer none,.pointer none] 243);have hbd:(w1.alloc (.cells #[.string name,.int .i64 u,.pointer none,.pointer none] 243)).drew.heap[w1.heap.size]?=some (.cells #[.string name,.int .i64 u,.pointer none,.pointer none] 243 (0,0)):=hb;have hq2:Q7 (w1.alloc (.cells #[.string name,.int .i64 u,.pointer none,.pointer none] 243)).drew (w.heap.size+1):=h7.later (kz.block _ (World.block_lt_of_cell? _ _ h7.q0));have hq0:w.heap.size+1<w1.heap.size:=World.block_lt_of_cell? _ _ h7.q0;obtain⟨m0,_,a0,_⟩:=d1.mt;obtain⟨m,f,a1,a2,a3,a4⟩:=d2.mt
 have hm:m0=m:=by
  have e:=kz.cell (p:=⟨d,2,none⟩) (World.block_lt_of_cell? _ _ a0);rw[a0,a1] at e
  injection e with e;injection e with e;injection e with e
  exact e.symm
 subst hm;refine⟨m0,a0,?_⟩;generalize (w1.alloc (.cells #[.string name,.int .i64 u,.pointer none,.pointer none] 243)).drew=Z at *;obtain⟨w3,hrun,p1,p2⟩:=a3.storeRun c0z Tryz.underlying137 (by unfold maxLen;omega) (b4Z hn) (by unfold b8f;trivial) w1.heap.size
 have hT:TH Z w1.heap.size name u (fun _=>0) .nil none none [] []:=by
  refine⟨?_,?_,?_,?_,fun o=>frozen_of_row _ _ _ _ _ hbd,?_,⟨rfl,rfl⟩,by simp,by simp,by simp⟩
  ·simp only[World.cell?,hbd];rfl
  ·simp only[World.cell?,hbd];rfl
  ·simp only[World.cell?,hbd];rfl
  ·simp only[World.cell?,hbd];rfl
  ·rw[c0x];exact⟨rfl,rfl⟩
 obtain⟨c2,e1,e2,e3⟩:=d2.insTn (t:=⟨name,u,w1.heap.size,fun _=>0,.nil⟩) (B:=w1.heap.size) a1 a2 a4 hT (d1.none (zq _)) (zq _) (b5R ht) p1 p2;have hqc:col (w.heap.size+1)=none:=h.dk.none (by omega);have hmq:w.heap.size+1≠m0:=fun e=>by rw[e,a2] at hqc;cases hqc
 have hql:w.heap.size+1<Z.heap.size:=World.block_lt_of_cell? _ _ hq2.q0;have hb3:w3.heap[w.heap.size+1]?=Z.heap[w.heap.size+1]?:=p2.block _ hql (fun e=>hmq (Option.some.inj e));refine⟨w3,hrun,hq2.later hb3,fun a b c e f g i=>a5O e1 (h.of.a0k (b5R ht)) h.wl h.hl (((Step.below k).trans (Step.below kz)).trans (e2.any k.size)) (by omega) (e3 _ hqc (by show w.heap.size+1≠w1.heap.size;omega)) 0 0 a b c e f g i⟩
theorem c4o(w:World):(zeroValue 198).run Tryz.prog w=.ok (.pointer none) w:=by simp[go_sem]
theorem b9j(h:DSt w d s r col)(name:ByteArray)(hn:name.size<=1000)(u:Int):
  Calls Tryz.prog 91 #[.pointer (some ⟨d,0,none⟩),.agg #[.string name,.int .i64 u]] w fun e w'=>∃ v,e=.returned v/\a0l w d col (Desk.a0g s (.a0k name u)) v w':=by
 obtain⟨hX,hXQ,hXb,_⟩:=e2v w (.cells #[.string name,.int .i64 u] 149);have x0:=d0h hXb 0 rfl;have x1:=d0h hXb 1 rfl;have HH:=a0b h;have HX:=a0b (And.intro hX hXQ);clear h hX hXQ hXb
 go_enter Tryz.func91,Tryz.ntmps91
 go_upto_region 1 with fail
 change Code.wp _ _ _ _ ((w.alloc (.cells #[.string name,.int .i64 u] 149)).alloc a0f);generalize (w.alloc (.cells #[.string name,.int .i64 u] 149)).alloc a0f=X at *;have hx:=HH.out.dk.later HX.out.1;obtain⟨m,f,a1,a2,a3,a4⟩:=hx.mt;have hlook:=(a3.block (w':=X.drew) rfl).look c0z Tryz.underlying137 (c4o X.drew) (b4Z hn);have hlen:=(a3.block (w':=X.drew) rfl).len Tryz.underlying137;rw[a4 name] at hlook;have QX:Hid (Q7 X.drew (w.heap.size+1)):=Q7.of HX.out.2;have BX:Hid (Below w.heap.size w X.drew):=HX.out.1.drew;have htl:=HH.out.inv.tl;rw[<- HH.out.of.len] at htl
 cases ht:b2r r.tg name with
 |some b =>
  rw[ht] at hlook;have hlook':(Instr.lookup 137 (.map (some m)) (.string name) false).run Tryz.prog X.drew=.ok (.pointer (some ⟨b,0,none⟩)) X.drew:=hlook
  have HD:Hid (Desk.a0g s (.a0k name u)=(s,Desk.Rep.error 4)):=by
   obtain⟨i,hi,e1,e2,e3⟩:=b2B HH.out.of HH.out.inv.tn ht;have hin:(r.tg[i].name,r.tg[i].a0c)∈s.ts:=by rw[<- HH.out.of.tsAt hi];exact zg _
   have:=(HH.out.inv.tu _ hin).1;simp only[Hid,Desk.a0g];rw[if_pos (by rw[e3];omega)]
  clear hlook a3 a4 ht hx HX hlen
  go_big_region
  clear hlook' x0 x1 a1
  go_wp2_with fail
  refine (a0D 4 X.drew).mono ?_;rintro e w2 ⟨rfl,hb2⟩;have HF:=a0b (HH.out.refuse BX.out QX.out hb2 HD.out);obtain⟨q0,q1,q2,q3,q4,q5,q6,fq⟩:=HF.out.1;simp only[a0s]
  go_wp2_with fail
  exact d0O Tryz.results91 ⟨q0,q1,q2,q3,q4,q5,q6,fq⟩ ⟨_,rfl,HF.out.2⟩
 |none =>
  rw[ht] at hlook;have hlook':(Instr.lookup 137 (.map (some m)) (.string name) false).run Tryz.prog X.drew=.ok (.pointer none) X.drew:=hlook;have hun:=b2C HH.out.of ht;have b1:X.drew.cell? ⟨d,2,none⟩=some (.map (some m)):=a1;have z0:X.drew.cell? ⟨w.heap.size,0,none⟩=some (.string name):=x0;have z1:X.drew.cell? ⟨w.heap.size,1,none⟩=some (.int .i64 u):=x1
  by_cases h4:r.tg.length=4
  ·rw[h4] at hlen
   have HD:Hid (Desk.a0g s (.a0k name u)=(s,Desk.Rep.error 5)):=by
    simp only[Hid,Desk.a0g];rw[if_neg (by omega),if_pos (by rw[<- HH.out.of.len];exact h4)]
   clear hlook a3 a4 ht hx HX
   go_big_region
   clear hlook' x0 x1 a1;generalize X.drew=Y at *
   go_wp2_with fail
   refine (a0D 5 Y).mono ?_;rintro e w2 ⟨rfl,hb2⟩;have HF:=a0b (HH.out.refuse BX.out QX.out hb2 HD.out);obtain⟨q0,q1,q2,q3,q4,q5,q6,fq⟩:=HF.out.1;simp only[a0s]
   go_wp2_with fail
   exact d0O Tryz.results91 ⟨q0,q1,q2,q3,q4,q5,q6,fq⟩ ⟨_,rfl,HF.out.2⟩
  ·have HD:Hid (Desk.a0g s (.a0k name u)=({ s with ts:=s.ts++[(name,u)] },Desk.Rep.num 0)):=by
    simp only[Hid,Desk.a0g];rw[if_neg (by omega),if_neg (by rw[<- HH.out.of.len];exact h4)]
   have HT:=a0b ht;have hl4:(r.tg.length:Int)<4:=by omega
   clear hlook a3 a4 ht hx HX
   go_big_region
   clear hlook' x0 x1 a1;generalize X.drew=Y at *
   go_wp2_with fail
   refine (b3Q name Y (by omega)).mono ?_;rintro e w1 ⟨rfl,hb⟩;have hNY:w.heap.size+1<Y.heap.size:=World.block_lt_of_cell? _ _ QX.out.q0;obtain⟨m2,g1,w3,hrun,q7,hf⟩:=HH.out.newT (u:=u) (BX.out.trans (hb.mono BX.out.size)) hn HT.out (by omega) (QX.out.later (hb.block _ hNY));have g2:w1.cell? ⟨w.heap.size,1,none⟩=some (.int .i64 u):=a0a hb z1;have HF:Hid (a0l w d col (Desk.a0g s (.a0k name u)) (a0s 0 0 0 (.slice none 0 0) (.slice none 0 0) (.slice none 0 0) (.slice none 0 0)) (a2w w3 (w.heap.size+1) (.int .i64 0) (.int .i64 0) (.int .i64 0) (.slice none 0 0) (.slice none 0 0) (.slice none 0 0) (.slice none 0 0))):=by rw[HD.out];exact hf _ _ _ _ _ _ _
   have ka:Below w1.heap.size w1 (w1.alloc (.cells #[.string name,.int .i64 u,.pointer none,.pointer none] 243)):=(zr _ _).alloc (zq _) _;have g1a:=a0a ka g1;have g2a:=a0a ka g2;clear hf hb hlen z0 z1 b1 ka
   go_upto_region 6 with fail
   go_big_region
   clear hrun g1 g2 g1a g2a;obtain⟨q0,q1,q2,q3,q4,q5,q6,fq⟩:=q7
   go_wp2_with fail
   exact d0O Tryz.results91 ⟨q0,q1,q2,q3,q4,q5,q6,fq⟩ ⟨_,rfl,HF.out⟩
theorem b3V(h:DSt w d s r col)(name:ByteArray)(hn:name.size<=1000)(u:Int):
  Calls Tryz.prog 64 #[.pointer (some ⟨d,0,none⟩),.iface 149 (.agg #[.string name,.int .i64 u])] w fun e w'=>∃ v,e=.returned v/\a0l w d col (Desk.a0g s (.a0k name u)) v w':=by
 have HX:=a0b (h.kit (.cells #[.string name,.int .i64 u] 149));have EF:=a0b (b9j HX.out.1 name hn u);clear h;unfold a0f at EF HX;have yesThing:=e9l Tryz.underlying149
 go_enter Tryz.func64,Tryz.ntmps64
 go_wp2_with fail
 refine EF.out.mono ?_;rintro e w2 ⟨v,rfl,ep⟩;obtain⟨er,at_,nn,a1,a2,a3,a4,n1,n2,n3,n4,c1,c2,c3,c4,rfl,q7,hf⟩:=ep.upA HX.out.2;have HF:=a0b hf;clear ep hf EF yesThing;obtain⟨q0,q1,q2,q3,q4,q5,q6,fq⟩:=q7;simp only[a0s]
 go_wp2_with fail
 exact d0O Tryz.results64 ⟨q0,q1,q2,q3,q4,q5,q6,fq⟩ ⟨_,rfl,HF.out⟩
theorem b5G(h:DSt w d s r col)(name:ByteArray)(hn:name.size<=1000)(u fr til:Int)(hl:Desk.a1O (.enter 1 name u fr til 0)):
  Calls Tryz.prog 64 #[.pointer (some ⟨d,0,none⟩),.iface 154 (.agg #[.string name,.int .i64 u,.int .i64 fr,.int .i64 til])] w fun e w'=>∃ v,e=.returned v/\a0l w d col (Desk.a0g s (.enter 1 name u fr til 0)) v w':=by
 have HX:=a0b (h.kit (.cells #[.string name,.int .i64 u,.int .i64 fr,.int .i64 til] 154));have EF:=a0b (c3F HX.out.1 name hn u fr til hl);clear h;unfold a0f at EF HX;have noThing:=d0q 154 (by decide);have yesBook:=e9l Tryz.underlying154
 go_enter Tryz.func64,Tryz.ntmps64
 go_wp2_with fail
 refine EF.out.mono ?_;rintro e w2 ⟨v,rfl,ep⟩;obtain⟨er,at_,nn,a1,a2,a3,a4,n1,n2,n3,n4,c1,c2,c3,c4,rfl,q7,hf⟩:=ep.upA HX.out.2;have HF:=a0b hf;clear ep hf EF noThing yesBook;obtain⟨q0,q1,q2,q3,q4,q5,q6,fq⟩:=q7;simp only[a0s]
 go_wp2_with fail
 exact d0O Tryz.results64 ⟨q0,q1,q2,q3,q4,q5,q6,fq⟩ ⟨_,rfl,HF.out⟩
theorem b5E(h:DSt w d s r col)(name:ByteArray)(hn:name.size<=1000)(u fr til long:Int)(hl:Desk.a1O (.enter 2 name u fr til long)):
  Calls Tryz.prog 64 #[.pointer (some ⟨d,0,none⟩),.iface 156 (.agg #[.string name,.int .i64 u,.int .i64 fr,.int .i64 til,.int .i64 long])] w fun e w'=>∃ v,e=.returned v/\a0l w d col (Desk.a0g s (.enter 2 name u fr til long)) v w':=by
 have HX:=a0b (h.kit (.cells #[.string name,.int .i64 u,.int .i64 fr,.int .i64 til,.int .i64 long] 156));have EF:=a0b (c3c HX.out.1 name hn u fr til long hl);clear h;unfold a0f at EF HX;have noThing:=d0q 156 (by decide);have noBook:=d2o 156 (by decide);have yesHold:=e9l Tryz.underlying156
 go_enter Tryz.func64,Tryz.ntmps64
 go_wp2_with fail
 refine EF.out.mono ?_;rintro e w2 ⟨v,rfl,ep⟩;obtain⟨er,at_,nn,a1,a2,a3,a4,n1,n2,n3,n4,c1,c2,c3,c4,rfl,q7,hf⟩:=ep.upA HX.out.2;have HF:=a0b hf;clear ep hf EF noThing noBook yesHold;obtain⟨q0,q1,q2,q3,q4,q5,q6,fq⟩:=q7;simp only[a0s]
 go_wp2_with fail
 exact d0O Tryz.results64 ⟨q0,q1,q2,q3,q4,q5,q6,fq⟩ ⟨_,rfl,HF.out⟩
theorem b5A(h:DSt w d s r col)(name:ByteArray)(hn:name.size<=1000)(u fr til long:Int)(hl:Desk.a1O (.enter 3 name u fr til long)):
  Calls Tryz.prog 64 #[.pointer (some ⟨d,0,none⟩),.iface 157 (.agg #[.string name,.int .i64 u,.int .i64 fr,.int .i64 til,.int .i64 long])] w fun e w'=>∃ v,e=.returned v/\a0l w d col (Desk.a0g s (.enter 3 name u fr til long)) v w':=by
 have HX:=a0b (h.kit (.cells #[.string name,.int .i64 u,.int .i64 fr,.int .i64 til,.int .i64 long] 157));have EF:=a0b (c1W HX.out.1 name hn u fr til long hl);clear h;unfold a0f at EF HX;have noThing:=d0q 157 (by decide);have noBook:=d2o 157 (by decide);have noHold:=d2F 157 (by decide);have yesWait:=e9l Tryz.underlying157
 go_enter Tryz.func64,Tryz.ntmps64
 go_wp2_with fail
 refine EF.out.mono ?_;rintro e w2 ⟨v,rfl,ep⟩;obtain⟨er,at_,nn,a1,a2,a3,a4,n1,n2,n3,n4,c1,c2,c3,c4,rfl,q7,hf⟩:=ep.upA HX.out.2;have HF:=a0b hf;clear ep hf EF noThing noBook noHold yesWait;obtain⟨q0,q1,q2,q3,q4,q5,q6,fq⟩:=q7;simp only[a0s]
 go_wp2_with fail
 exact d0O Tryz.results64 ⟨q0,q1,q2,q3,q4,q5,q6,fq⟩ ⟨_,rfl,HF.out⟩
theorem b0l(h:DSt w d s r col)(id:Int)(hid:0<=id/\id<=9999999):
  Calls Tryz.prog 64 #[.pointer (some ⟨d,0,none⟩),.iface 167 (.agg #[.int .i64 id])] w fun e w'=>∃ v,e=.returned v/\a0l w d col (Desk.a0g s (.confirm id)) v w':=by
 have HX:=a0b (h.kit (.cells #[.int .i64 id] 167));have EF:=a0b (b5s HX.out.1 id hid);clear h;unfold a0f at EF HX;have noThing:=d0q 167 (by decide);have noBook:=d2o 167 (by decide);have noHold:=d2F 167 (by decide);have noWait:=d3H 167 (by decide);have noSeries:=d0K 167 (by decide);have yesConfirm:=e9l Tryz.underlying167
 go_enter Tryz.func64,Tryz.ntmps64
 go_wp2_with fail
 refine EF.out.mono ?_;rintro e w2 ⟨v,rfl,ep⟩;obtain⟨er,at_,nn,a1,a2,a3,a4,n1,n2,n3,n4,c1,c2,c3,c4,rfl,q7,hf⟩:=ep.upA HX.out.2;have HF:=a0b hf;clear ep hf EF noThing noBook noHold noWait noSeries yesConfirm;obtain⟨q0,q1,q2,q3,q4,q5,q6,fq⟩:=q7;simp only[a0s]
 go_wp2_with fail
 exact d0O Tryz.results64 ⟨q0,q1,q2,q3,q4,q5,q6,fq⟩ ⟨_,rfl,HF.out⟩
theorem b2n(h:DSt w d s r col)(id:Int)(hid:0<=id/\id<=9999999):
  Calls Tryz.prog 64 #[.pointer (some ⟨d,0,none⟩),.iface 168 (.agg #[.int .i64 id])] w fun e w'=>∃ v,e=.returned v/\a0l w d col (Desk.a0g s (.cancel id)) v w':=by
 have HX:=a0b (h.kit (.cells #[.int .i64 id] 168));have EF:=a0b (b8L HX.out.1 id hid);clear h;unfold a0f at EF HX;have noThing:=d0q 168 (by decide);have noBook:=d2o 168 (by decide);have noHold:=d2F 168 (by decide);have noWait:=d3H 168 (by decide);have noSeries:=d0K 168 (by decide);have noConfirm:=d0y 168 (by decide);have yesCancel:=e9l Tryz.underlying168
 go_enter Tryz.func64,Tryz.ntmps64
 go_wp2_with fail
 refine EF.out.mono ?_;rintro e w2 ⟨v,rfl,ep⟩;obtain⟨er,at_,nn,a1,a2,a3,a4,n1,n2,n3,n4,c1,c2,c3,c4,rfl,q7,hf⟩:=ep.upA HX.out.2;have HF:=a0b hf;clear ep hf EF noThing noBook noHold noWait noSeries noConfirm yesCancel;obtain⟨q0,q1,q2,q3,q4,q5,q6,fq⟩:=q7;simp only[a0s]
 go_wp2_with fail
 exact d0O Tryz.results64 ⟨q0,q1,q2,q3,q4,q5,q6,fq⟩ ⟨_,rfl,HF.out⟩
theorem b5C(h:DSt w d s r col)(name:ByteArray)(hn:name.size<=1000)(fr til:Int)(hl:Desk.a1O (.peak name fr til)):
  Calls Tryz.prog 64 #[.pointer (some ⟨d,0,none⟩),.iface 176 (.agg #[.string name,.int .i64 fr,.int .i64 til])] w fun e w'=>∃ v,e=.returned v/\a0l w d col (Desk.a0g s (.peak name fr til)) v w':=by
 have HX:=a0b (h.kit (.cells #[.string name,.int .i64 fr,.int .i64 til] 176));have EF:=a0b (c2D HX.out.1 name hn fr til hl);clear h;unfold a0f at EF HX;have noThing:=d0q 176 (by decide);have noBook:=d2o 176 (by decide);have noHold:=d2F 176 (by decide);have noWait:=d3H 176 (by decide);have noSeries:=d0K 176 (by decide);have noConfirm:=d0y 176 (by decide);have noCancel:=d1Q 176 (by decide);have noList:=d8g 176 (by decide);have noWaiting:=d2E 176 (by decide);have yesPeak:=e9l Tryz.underlying176
 go_enter Tryz.func64,Tryz.ntmps64
 go_wp2_with fail
 refine EF.out.mono ?_;rintro e w2 ⟨v,rfl,ep⟩;obtain⟨er,at_,nn,a1,a2,a3,a4,n1,n2,n3,n4,c1,c2,c3,c4,rfl,q7,hf⟩:=ep.upA HX.out.2;have HF:=a0b hf;clear ep hf EF noThing noBook noHold noWait noSeries noConfirm noCancel noList noWaiting yesPeak;obtain⟨q0,q1,q2,q3,q4,q5,q6,fq⟩:=q7;simp only[a0s]
 go_wp2_with fail
 exact d0O Tryz.results64 ⟨q0,q1,q2,q3,q4,q5,q6,fq⟩ ⟨_,rfl,HF.out⟩
theorem b5F(h:DSt w d s r col)(name:ByteArray)(hn:name.size<=1000)(u long fr til:Int)(hl:Desk.a1O (.find name u long fr til)):
  Calls Tryz.prog 64 #[.pointer (some ⟨d,0,none⟩),.iface 178 (.agg #[.string name,.int .i64 u,.int .i64 long,.int .i64 fr,.int .i64 til])] w fun e w'=>∃ v,e=.returned v/\a0l w d col (Desk.a0g s (.find name u long fr til)) v w':=by
 have HX:=a0b (h.kit (.cells #[.string name,.int .i64 u,.int .i64 long,.int .i64 fr,.int .i64 til] 178));have EF:=a0b (c3j HX.out.1 name hn u long fr til hl);clear h;unfold a0f at EF HX;have noThing:=d0q 178 (by decide);have noBook:=d2o 178 (by decide);have noHold:=d2F 178 (by decide);have noWait:=d3H 178 (by decide);have noSeries:=d0K 178 (by decide);have noConfirm:=d0y 178 (by decide);have noCancel:=d1Q 178 (by decide);have noList:=d8g 178 (by decide);have noWaiting:=d2E 178 (by decide);have noPeak:=e3J 178 (by decide);have yesFind:=e9l Tryz.underlying178
 go_enter Tryz.func64,Tryz.ntmps64
 go_wp2_with fail
 refine EF.out.mono ?_;rintro e w2 ⟨v,rfl,ep⟩;obtain⟨er,at_,nn,a1,a2,a3,a4,n1,n2,n3,n4,c1,c2,c3,c4,rfl,q7,hf⟩:=ep.upA HX.out.2;have HF:=a0b hf;clear ep hf EF noThing noBook noHold noWait noSeries noConfirm noCancel noList noWaiting noPeak yesFind;obtain⟨q0,q1,q2,q3,q4,q5,q6,fq⟩:=q7;simp only[a0s]
 go_wp2_with fail
 exact d0O Tryz.results64 ⟨q0,q1,q2,q3,q4,q5,q6,fq⟩ ⟨_,rfl,HF.out⟩
theorem b5B(h:DSt w d s r col)(n:Int)(hn:1<=n/\n<=1048320):
  Calls Tryz.prog 64 #[.pointer (some ⟨d,0,none⟩),.iface 182 (.agg #[.int .i64 n])] w fun e w'=>∃ v,e=.returned v/\a0l w d col (Desk.a0g s (.tick n)) v w':=by
 have HX:=a0b (h.kit (.cells #[.int .i64 n] 182));have EF:=a0b (c2a HX.out.1 n hn);clear h;unfold a0f at EF HX;have noThing:=d0q 182 (by decide);have noBook:=d2o 182 (by decide);have noHold:=d2F 182 (by decide);have noWait:=d3H 182 (by decide);have noSeries:=d0K 182 (by decide);have noConfirm:=d0y 182 (by decide);have noCancel:=d1Q 182 (by decide);have noList:=d8g 182 (by decide);have noWaiting:=d2E 182 (by decide);have noPeak:=e3J 182 (by decide);have noFind:=e7l 182 (by decide);have noExpand:=e3K 182 (by decide);have yesTick:=e9l Tryz.underlying182
 go_enter Tryz.func64,Tryz.ntmps64
 go_wp2_with fail
 refine EF.out.mono ?_;rintro e w2 ⟨v,rfl,ep⟩;obtain⟨er,at_,nn,a1,a2,a3,a4,n1,n2,n3,n4,c1,c2,c3,c4,rfl,q7,hf⟩:=ep.upA HX.out.2;have HF:=a0b hf;clear ep hf EF noThing noBook noHold noWait noSeries noConfirm noCancel noList noWaiting noPeak noFind noExpand yesTick;obtain⟨q0,q1,q2,q3,q4,q5,q6,fq⟩:=q7;simp only[a0s]
 go_wp2_with fail
 exact d0O Tryz.results64 ⟨q0,q1,q2,q3,q4,q5,q6,fq⟩ ⟨_,rfl,HF.out⟩
theorem b1Q(y m:Int)(w:World)(ht:Tab w):
  Calls Tryz.prog 294 #[.int .i64 y,.int .i64 m] w fun e w'=>e=.returned (.bool (Rd.reached y m))/\w'=w:=by
 cases h:Cal.ok y m 1
 ·have HC:=a0b (a9O y m 1 w ht h);have e:Rd.reached y m=false:=by unfold Rd.reached;rw[h];rfl
  rw[e];clear h ht e
  go_enter Tryz.func294,Tryz.ntmps294
  go_wp2_with fail
  refine HC.out.mono ?_;rintro e w1 ⟨rfl,rfl⟩
  go_wp2_with fail
  go_ret;exact⟨rfl,rfl⟩
 ·have HC:=a0b (a7P y m 1 w ht h);have e:Rd.reached y m=decide (Cal.num y m 1<728):=by unfold Rd.reached;rw[h];rfl
  rw[e];clear h ht e;generalize Cal.num y m 1=z at *
  go_enter Tryz.func294,Tryz.ntmps294
  go_wp2_with fail
  refine HC.out.mono ?_;rintro e w1 ⟨rfl,rfl⟩
  go_wp2_with fail
  go_ret;exact⟨rfl,rfl⟩
theorem b3g(y m ev:Int)(w:World)(h1:0<=y)(h2:y<=100000)(h3:1<=m)(h4:m<=12)(h5:1<=ev)(h6:ev<=99):
  Calls Tryz.prog 295 #[.int .i64 y,.int .i64 m,.int .i64 ev] w fun e w'=>e=.returned (.tuple #[.int .i64 (Rd.a4E y m ev),.int .i64 (Rd.a3J m ev)])/\w'=w:=by
 have k1:IntKind.i64.wrap (m-1)=m-1:=a0i (by omega) (by omega);have k2:IntKind.i64.wrap (m-1+ev)=m-1+ev:=a0i (by omega) (by omega);have k3:IntKind.i64.wrap ((m-1+ev).tdiv 12)=(m-1+ev) / 12:=by rw[Int.tdiv_eq_ediv_of_nonneg (by omega)];exact a0i (by omega) (by omega)
 have k4:IntKind.i64.wrap (y+(m-1+ev) / 12)=y+(m-1+ev) / 12:=a0i (by omega) (by omega);have k5:(m-1+ev).tmod 12=(m-1+ev) % 12:=Int.tmod_eq_emod_of_nonneg (by omega);have k6:IntKind.i64.wrap ((m-1+ev) % 12)=(m-1+ev) % 12:=a0i (by omega) (by omega);have k7:IntKind.i64.wrap ((m-1+ev) % 12+1)=(m-1+ev) % 12+1:=a0i (by omega) (by omega);unfold Rd.a4E Rd.a3J
 go_enter Tryz.func295,Tryz.ntmps295
 go_wp2_with fail
 go_ret2;simp
def a1S(r:Rd.a0Y):Value:=.agg #[.int .i64 r.pc,.int .i64 r.ev,.bool (isd r.acc 0),.bool (isd r.acc 1),.bool (isd r.acc 2),.bool (isd r.acc 3),.bool (isd r.acc 4),.bool (isd r.acc 5),.bool (isd r.acc 6),.int .i64 r.fr,.int .i64 r.mn,.int .i64 r.mi,.int .i64 r.ti,.int .i64 r.un]
def a4K(r:Rd.a0Y)(d:Int):Int × Int:=(d*1440+r.mn,d*1440+r.mn+r.mi)
theorem b0u(r:Rd.a0Y)(hf:Rd.a6s r)(d:Int)(h0:0<=d)(h1:d<100000)(w:World):
  Calls Tryz.prog 200 #[a1S r,.int .i64 d] w fun e w'=>e=.returned (.agg #[.int .i64 (a4K r d).1,.int .i64 (a4K r d).2])/\Below w.heap.size w w':=by
 have m0:=hf.m0;have m1:=hf.m1;have i1:=hf.i1;have i2:=hf.i2;have k1:IntKind.i64.wrap (d*1440)=d*1440:=a0i (by omega) (by omega);have k2:IntKind.i64.wrap (d*1440+r.mn)=d*1440+r.mn:=a0i (by omega) (by omega);have k3:IntKind.i64.wrap (d*1440+r.mn+r.mi)=d*1440+r.mn+r.mi:=a0i (by omega) (by omega);have HF:Hid (Below w.heap.size w ((w.alloc (.cells #[.int .i64 r.pc,.int .i64 r.ev,.bool (isd r.acc 0),.bool (isd r.acc 1),.bool (isd r.acc 2),.bool (isd r.acc 3),.bool (isd r.acc 4),.bool (isd r.acc 5),.bool (isd r.acc 6),.int .i64 r.fr,.int .i64 r.mn,.int .i64 r.mi,.int .i64 r.ti,.int .i64 r.un] 162)).alloc (.cells #[.int .i64 (d*1440+r.mn),.int .i64 (d*1440+r.mn+r.mi)] 60))):=((zr _ _).alloc (zq _) _).alloc (by simp) _;clear hf;unfold a1S
 go_enter Tryz.func200,Tryz.ntmps200
 go_wp2_with fail
 exact bodyPost_ret (v:=.agg #[.int .i64 (d*1440+r.mn),.int .i64 (d*1440+r.mn+r.mi)]) (by simp[results,Tryz.results200,go_sem]) rfl ⟨rfl,HF.out⟩
def a0u(r:Rd.a0Y):Obj:=(.cells #[.int .i64 r.pc,.int .i64 r.ev,.bool (isd r.acc 0),.bool (isd r.acc 1),.bool (isd r.acc 2),.bool (isd r.acc 3),.bool (isd r.acc 4),.bool (isd r.acc 5),.bool (isd r.acc 6),.int .i64 r.fr,.int .i64 r.mn,.int .i64 r.mi,.int .i64 r.ti,.int .i64 r.un] 162 (0,0))
theorem a7u{r:Rd.a0Y}(h:w.heap[b]?=some (a0u r)):w.cell? ⟨b,0,none⟩=some (.int .i64 r.pc):=by unfold a0u at h;simp only[World.cell?,h];rfl
theorem a3R{r:Rd.a0Y}(h:w.heap[b]?=some (a0u r)):w.cell? ⟨b,1,none⟩=some (.int .i64 r.ev):=by unfold a0u at h;simp only[World.cell?,h];rfl
theorem a7t{r:Rd.a0Y}(h:w.heap[b]?=some (a0u r)):w.cell? ⟨b,2,none⟩=some (.bool (isd r.acc 0)):=by unfold a0u at h;simp only[World.cell?,h];rfl
theorem a7s{r:Rd.a0Y}(h:w.heap[b]?=some (a0u r)):w.cell? ⟨b,3,none⟩=some (.bool (isd r.acc 1)):=by unfold a0u at h;simp only[World.cell?,h];rfl
theorem a7r{r:Rd.a0Y}(h:w.heap[b]?=some (a0u r)):w.cell? ⟨b,4,none⟩=some (.bool (isd r.acc 2)):=by unfold a0u at h;simp only[World.cell?,h];rfl
theorem a7q{r:Rd.a0Y}(h:w.heap[b]?=some (a0u r)):w.cell? ⟨b,5,none⟩=some (.bool (isd r.acc 3)):=by unfold a0u at h;simp only[World.cell?,h];rfl
theorem a7p{r:Rd.a0Y}(h:w.heap[b]?=some (a0u r)):w.cell? ⟨b,6,none⟩=some (.bool (isd r.acc 4)):=by unfold a0u at h;simp only[World.cell?,h];rfl
theorem a7o{r:Rd.a0Y}(h:w.heap[b]?=some (a0u r)):w.cell? ⟨b,7,none⟩=some (.bool (isd r.acc 5)):=by unfold a0u at h;simp only[World.cell?,h];rfl
theorem a7n{r:Rd.a0Y}(h:w.heap[b]?=some (a0u r)):w.cell? ⟨b,8,none⟩=some (.bool (isd r.acc 6)):=by unfold a0u at h;simp only[World.cell?,h];rfl
theorem a4m{r:Rd.a0Y}(h:w.heap[b]?=some (a0u r)):w.cell? ⟨b,9,none⟩=some (.int .i64 r.fr):=by unfold a0u at h;simp only[World.cell?,h];rfl
theorem a6E{r:Rd.a0Y}(h:w.heap[b]?=some (a0u r)):w.cell? ⟨b,10,none⟩=some (.int .i64 r.mn):=by unfold a0u at h;simp only[World.cell?,h];rfl
theorem a6D{r:Rd.a0Y}(h:w.heap[b]?=some (a0u r)):w.cell? ⟨b,11,none⟩=some (.int .i64 r.mi):=by unfold a0u at h;simp only[World.cell?,h];rfl
theorem a6C{r:Rd.a0Y}(h:w.heap[b]?=some (a0u r)):w.cell? ⟨b,12,none⟩=some (.int .i64 r.ti):=by unfold a0u at h;simp only[World.cell?,h];rfl
theorem a6B{r:Rd.a0Y}(h:w.heap[b]?=some (a0u r)):w.cell? ⟨b,13,none⟩=some (.int .i64 r.un):=by unfold a0u at h;simp only[World.cell?,h];rfl
open Go.RowKit Go.Shelf
attribute [local go_sem] Oper.semAt_some
def RK(n₀ Bn:Nat)(W W':World):Prop:=Below n₀ W W'/\W'.heap[Bn]?=W.heap[Bn]?
theorem c1j(F:Fence)(n:Nat)(h6:F.fn 296)(hro:F.round=none)(hn:1<=n)(l Bn n₀:Nat)(r:Rd.a0Y)(hf:Rd.a6s r)(J Jx:List Int->World->Prop)
  (hY:∀ pre x W,J pre W->pre.length<(Rd.b0f r.ev 800 r.fr).length->YieldAt F (n-1) Tryz.prog l #[.int .i64 x] W fun e W' =>
   (e=.returned (.bool true)/\J (pre++[x]) W'/\RK n₀ Bn W W')\/(e=.returned (.bool false)/\Jx (pre++[x]) W'))
  (W:World) (hr:W.heap[Bn]?=some (a0u r)) (h0:J [] W):
  CallsIn F n Tryz.prog 296 #[.func (.yield l) #[] #[],.pointer (some ⟨Bn,0,none⟩)] W fun e W'=>(∃ v,e=.returned v) /\
   ((∃ ys,ys=Rd.b0f r.ev 800 r.fr/\J ys W')\/(∃ pre,pre <+: Rd.b0f r.ev 800 r.fr/\Jx pre W')):=by
 have c9:=a4m hr;have e1:=hf.e1;have e2:=hf.e2;have f0:=hf.f0;have f1:=hf.f1;clear hf;generalize hS:Rd.b0f r.ev 800 r.fr=S at *;refine callsIn_of_wp Tryz.func296 rfl h6 ?_ hro;simp only[Tryz.ntmps296,List.size_toArray,List.length_cons,List.length_nil,Nat.reduceAdd,Nat.reduceSub,Array.replicate_succ,Array.replicate_zero,List.push_toArray,List.append_toArray,List.nil_append,List.cons_append]
 gi_wp2
 gi_loopw [3] (fun v wr=>∃ (d:Int) (f:Nat) (pre:List Int),v=.int .i64 d/\S=pre++Rd.b0f r.ev f d/\0<=d/\d<=10000/\728<=d+f/\J pre wr/\wr.heap[Bn]?=some (a0u r)) (fun v _=>(20000-intOf v).toNat)
 case atStart=>exact⟨r.fr,800,[],rfl,hS.symm,f0,by omega,by omega,h0,hr⟩
 case round =>
  obtain⟨d,f,pre,rfl,hx,hd0,hd1,hdf,hJ,hR⟩:=hrel
  by_cases hlt:d<728
  ·obtain⟨f',rfl⟩:∃ f',f=f'+1:=⟨f-1,by omega⟩;have q1:Rd.b0f r.ev (f'+1) d=d :: Rd.b0f r.ev f' (d+r.ev):=by simp[Rd.b0f,hlt]
   rw[q1] at hx;have k1:IntKind.i64.wrap (d+r.ev)=d+r.ev:=a0i (by omega) (by omega);obtain⟨fn,tmps,assign,body,hy,hRd⟩:=hY pre d wr hJ (by rw[hx];simp)
   gi_wp2
   refine hRd.mono ?_;rintro e W3 (⟨rfl,hJ3,hk3⟩|⟨rfl,hJx3⟩)
   ·have c1:=a3R (hk3.2.trans hR)
    gi_wp2
    go_roundw
    case rel=>exact⟨d+r.ev,f',pre++[d],by simp,by simp[hx],by omega,by omega,by omega,hJ3,hk3.2.trans hR⟩
    case measure=>simp[intOf];omega
   ·gi_wp2
    refine bodyPost_ret (results_none rfl _ _ _) rfl ?_;exact⟨⟨_,rfl⟩,.inr ⟨pre++[d],⟨Rd.b0f r.ev f' (d+r.ev),by simp[hx]⟩,hJx3⟩⟩
  ·have q1:Rd.b0f r.ev f d=[]:=by cases f <;> simp[Rd.b0f,hlt]
   rw[q1,List.append_nil] at hx;subst hx
   gi_wp2
   go_end0
   exact⟨⟨_,rfl⟩,.inl hJ⟩
attribute [local go_sem] Oper.semAt_some
theorem b9D{r:Rd.a0Y}(h:w.heap[b]?=some (a0u r)):∀ i:Nat,i<7->w.cell? ⟨b,2+i,none⟩=some (.bool (isd r.acc i))
 |0,_=>a7t h
 |1,_=>a7s h
 |2,_=>a7r h
 |3,_=>a7q h
 |4,_=>a7p h
 |5,_=>a7o h
 |6,_=>a7n h
 |i+7,hi=>by omega
theorem b7E(F:Fence)(n:Nat)(h6:F.fn 292)(hro:F.round=none)(hn:1<=n)(l Bn n₀:Nat)(r:Rd.a0Y)(hf:Rd.a6s r)(J Jx:List Int->World->Prop)
  (hY:∀ pre x W,J pre W->pre.length<(Rd.a9Y r.acc r.fr r.ev 800 (r.fr-r.fr % 7)).length->YieldAt F (n-1) Tryz.prog l #[.int .i64 x] W fun e W' =>
   (e=.returned (.bool true)/\J (pre++[x]) W'/\RK n₀ Bn W W')\/(e=.returned (.bool false)/\Jx (pre++[x]) W'))
  (W:World) (hr:W.heap[Bn]?=some (a0u r)) (h0:J [] W):
  CallsIn F n Tryz.prog 292 #[.func (.yield l) #[] #[],.pointer (some ⟨Bn,0,none⟩)] W fun e W'=>(∃ v,e=.returned v) /\
   ((∃ ys,ys=Rd.a9Y r.acc r.fr r.ev 800 (r.fr-r.fr % 7)/\J ys W')\/(∃ pre,pre <+: Rd.a9Y r.acc r.fr r.ev 800 (r.fr-r.fr % 7)/\Jx pre W')):=by
 have c9:=a4m hr;have e1:=hf.e1;have e2:=hf.e2;have f0:=hf.f0;have f1:=hf.f1;clear hf;have m1:r.fr.tmod 7=r.fr % 7:=Int.tmod_eq_emod_of_nonneg f0;have m2:IntKind.i64.wrap (r.fr % 7)=r.fr % 7:=a0i (by omega) (by omega);have m3:IntKind.i64.wrap (r.fr-r.fr % 7)=r.fr-r.fr % 7:=a0i (by omega) (by omega);have m4:IntKind.i64.wrap (r.ev*7)=r.ev*7:=a0i (by omega) (by omega);generalize hS:Rd.a9Y r.acc r.fr r.ev 800 (r.fr-r.fr % 7)=S at *;refine callsIn_of_wp Tryz.func292 rfl h6 ?_ hro;simp only[Tryz.ntmps292,List.size_toArray,List.length_cons,List.length_nil,Nat.reduceAdd,Nat.reduceSub,Array.replicate_succ,Array.replicate_zero,List.push_toArray,List.append_toArray,List.nil_append,List.cons_append]
 gi_wp2
 gi_loopw [3] (fun v wr=>∃ (d:Int) (f:Nat) (pre:List Int),v=.int .i64 d/\S=pre++Rd.a9Y r.acc r.fr r.ev f d/\0<=d/\d<=10000/\r.fr<d+7/\728<=d+f/\J pre wr/\wr.heap[Bn]?=some (a0u r)) (fun v _=>(20000-intOf v).toNat)
 case atStart=>exact⟨r.fr-r.fr % 7,800,[],rfl,hS.symm,by omega,by omega,by omega,by omega,h0,hr⟩
 case round =>
  obtain⟨mon,f,pre,rfl,hx,hd0,hd1,hfr,hdf,hJ,hR⟩:=hrel;clear c9 hr h0
  by_cases hlt:mon<728
  ·obtain⟨f',rfl⟩:∃ f',f=f'+1:=⟨f-1,by omega⟩;have q1:Rd.a9Y r.acc r.fr r.ev (f'+1) mon=Rd.c1K r.acc r.fr mon++Rd.a9Y r.acc r.fr r.ev f' (mon+r.ev*7):=by simp[Rd.a9Y,hlt]
   rw[q1] at hx;have k1:IntKind.i64.wrap (mon+r.ev*7)=mon+r.ev*7:=a0i (by omega) (by omega);have k2:IntKind.i64.wrap (mon+7)=mon+7:=a0i (by omega) (by omega);have c9:=a4m hR
   by_cases hm:r.fr<=mon
   ·have hwk:Rd.c1K r.acc r.fr mon=Rd.a1p (fun d=>isd r.acc (d-mon)) (7-0) (mon+((0:Nat):Int)):=by unfold Rd.c1K;rw[show max mon r.fr=mon from by omega,show (mon+7-mon).toNat=7 from by omega];simp
    gi_wp2
    gi_loopw [4] (fun v wr=>∃ (i:Nat) (pre':List Int),v=.int .i64 (mon+i)/\i<=7/\pre'++Rd.a1p (fun d=>isd r.acc (d-mon)) (7-i) (mon+i)=pre++Rd.c1K r.acc r.fr mon/\J pre' wr/\wr.heap[Bn]?=some (a0u r)) (fun v _=>(mon+7-intOf v).toNat)
    case atStart=>exact⟨0,pre,(by first|(simp;done)|(simp;omega)),by omega,by rw[hwk],hJ,hR⟩
    case round =>
     obtain⟨i,pre',rfl,hi,hu,hJ',hR'⟩:=hrel;clear hJ hR c9
     by_cases hi7:i<7
     ·have hlt2:mon+(i:Int)<mon+7:=by omega
      have on:=b9D hR' i hi7;have k3:IntKind.i64.wrap (mon+(i:Int)-mon)=i:=by rw[show mon+(i:Int)-mon=i from by omega];exact a0i (by omega) (by omega)
      have k4:IntKind.i64.wrap (mon+(i:Int)+1)=mon+i+1:=a0i (by omega) (by omega);have hp:mon+(i:Int)-mon=i:=by omega
      have q5:Rd.a1p (fun d=>isd r.acc (d-mon)) (7-i) (mon+i)=(if isd r.acc i then [mon+(i:Int)] else [])++Rd.a1p (fun d=>isd r.acc (d-mon)) (7-(i+1)) (mon+((i+1:Nat):Int)):=by
       rw[show 7-i=(7-(i+1))+1 from by omega,Rd.a1p,hp,show mon+((i+1:Nat):Int)=mon+i+1 from by omega]
       split <;> simp
      rw[q5] at hu
      cases hb:isd r.acc i
      ·rw[hb] at on hu
       gi_wp2
       refine⟨fun _ h=>(by cases h),?_⟩
       gi_wp2
       go_roundw
       case rel=>exact⟨i+1,pre',by simp;omega,by omega,by simpa using hu,hJ',hR'⟩
       case measure=>simp[intOf];omega
      ·rw[hb] at on hu;obtain⟨fn,tmps,assign,body,hy,hRd⟩:=hY pre' (mon+i) wr hJ' (by rw[hx,<- List.append_assoc,<- hu];simp)
       gi_wp2
       refine hRd.mono ?_;rintro e W3 (⟨rfl,hJ3,hk3⟩|⟨rfl,hJx3⟩)
       ·gi_wp2
        go_roundw
        case rel=>exact⟨i+1,pre'++[mon+(i:Int)],by simp;omega,by omega,by simpa using hu,hJ3,hk3.2.trans hR'⟩
        case measure=>simp[intOf];omega
       ·gi_wp2
        refine bodyPost_ret (results_none rfl _ _ _) rfl ?_;exact⟨⟨_,rfl⟩,.inr ⟨pre'++[mon+(i:Int)],⟨Rd.a1p (fun d=>isd r.acc (d-mon)) (7-(i+1)) (mon+((i+1:Nat):Int))++Rd.a9Y r.acc r.fr r.ev f' (mon+r.ev*7),by rw[hx,<- List.append_assoc,<- List.append_assoc,<- hu];simp⟩,hJx3⟩⟩
     ·have hlt2:¬ mon+(i:Int)<mon+7:=by omega
      have c1:=a3R hR';have e7:i=7:=by omega
      subst e7;simp only[Nat.sub_self,Rd.a1p,List.append_nil] at hu
      gi_wp2
      go_roundw
      case rel=>exact⟨mon+r.ev*7,f',pre',by simp,by rw[hx,hu,List.append_assoc],by omega,by omega,by omega,by omega,hJ',hR'⟩
      case measure=>simp[intOf];omega
   ·have hi0:r.fr=mon+((r.fr-mon).toNat:Int):=by omega
    have hwk:Rd.c1K r.acc r.fr mon=Rd.a1p (fun d=>isd r.acc (d-mon)) (7-(r.fr-mon).toNat) (mon+((r.fr-mon).toNat:Int)):=by unfold Rd.c1K;rw[<- hi0,show max mon r.fr=r.fr from by omega,show (mon+7-r.fr).toNat=7-(r.fr-mon).toNat from by omega]
    have HW:=a0b (And.intro hi0 hwk);clear hi0 hwk
    gi_wp2
    gi_loopw [4] (fun v wr=>∃ (i:Nat) (pre':List Int),v=.int .i64 (mon+i)/\i<=7/\pre'++Rd.a1p (fun d=>isd r.acc (d-mon)) (7-i) (mon+i)=pre++Rd.c1K r.acc r.fr mon/\J pre' wr/\wr.heap[Bn]?=some (a0u r)) (fun v _=>(mon+7-intOf v).toNat)
    case atStart=>exact⟨(r.fr-mon).toNat,pre,(by first|(rw[<- HW.out.1];done)|(rw[<- HW.out.1];congr 1;omega)),by omega,by rw[HW.out.2],hJ,hR⟩
    case round =>
     obtain⟨i,pre',rfl,hi,hu,hJ',hR'⟩:=hrel;clear hJ hR c9
     by_cases hi7:i<7
     ·have hlt2:mon+(i:Int)<mon+7:=by omega
      have on:=b9D hR' i hi7;have k3:IntKind.i64.wrap (mon+(i:Int)-mon)=i:=by rw[show mon+(i:Int)-mon=i from by omega];exact a0i (by omega) (by omega)
      have k4:IntKind.i64.wrap (mon+(i:Int)+1)=mon+i+1:=a0i (by omega) (by omega);have hp:mon+(i:Int)-mon=i:=by omega
      have q5:Rd.a1p (fun d=>isd r.acc (d-mon)) (7-i) (mon+i)=(if isd r.acc i then [mon+(i:Int)] else [])++Rd.a1p (fun d=>isd r.acc (d-mon)) (7-(i+1)) (mon+((i+1:Nat):Int)):=by
       rw[show 7-i=(7-(i+1))+1 from by omega,Rd.a1p,hp,show mon+((i+1:Nat):Int)=mon+i+1 from by omega]
       split <;> simp
      rw[q5] at hu
      cases hb:isd r.acc i
      ·rw[hb] at on hu
       gi_wp2
       refine⟨fun _ h=>(by cases h),?_⟩
       gi_wp2
       go_roundw
       case rel=>exact⟨i+1,pre',by simp;omega,by omega,by simpa using hu,hJ',hR'⟩
       case measure=>simp[intOf];omega
      ·rw[hb] at on hu;obtain⟨fn,tmps,assign,body,hy,hRd⟩:=hY pre' (mon+i) wr hJ' (by rw[hx,<- List.append_assoc,<- hu];simp)
       gi_wp2
       refine hRd.mono ?_;rintro e W3 (⟨rfl,hJ3,hk3⟩|⟨rfl,hJx3⟩)
       ·gi_wp2
        go_roundw
        case rel=>exact⟨i+1,pre'++[mon+(i:Int)],by simp;omega,by omega,by simpa using hu,hJ3,hk3.2.trans hR'⟩
        case measure=>simp[intOf];omega
       ·gi_wp2
        refine bodyPost_ret (results_none rfl _ _ _) rfl ?_;exact⟨⟨_,rfl⟩,.inr ⟨pre'++[mon+(i:Int)],⟨Rd.a1p (fun d=>isd r.acc (d-mon)) (7-(i+1)) (mon+((i+1:Nat):Int))++Rd.a9Y r.acc r.fr r.ev f' (mon+r.ev*7),by rw[hx,<- List.append_assoc,<- List.append_assoc,<- hu];simp⟩,hJx3⟩⟩
     ·have hlt2:¬ mon+(i:Int)<mon+7:=by omega
      have c1:=a3R hR';have e7:i=7:=by omega
      subst e7;simp only[Nat.sub_self,Rd.a1p,List.append_nil] at hu
      gi_wp2
      go_roundw
      case rel=>exact⟨mon+r.ev*7,f',pre',by simp,by rw[hx,hu,List.append_assoc],by omega,by omega,by omega,by omega,hJ',hR'⟩
      case measure=>simp[intOf];omega
  ·have q1:Rd.a9Y r.acc r.fr r.ev f mon=[]:=by cases f <;> simp[Rd.a9Y,hlt]
   rw[q1,List.append_nil] at hx;subst hx
   gi_wp2
   go_end0
   exact⟨⟨_,rfl⟩,.inl hJ⟩
attribute [local go_sem] Oper.semAt_some
theorem a3c(h:Tab w)(k:Below n₀ w w')(hn:10<=n₀):Tab w':=by
 obtain⟨a0,a1,a2,a3,a4,a5,a6,a7,a8,a9,a10,a11⟩:=h;refine⟨?_,?_,?_,?_,?_,?_,?_,?_,?_,?_,?_,?_⟩
 all_goals (refine (k.cell (by show 1<n₀;omega)).trans ?_;assumption)
theorem b4V(n:Nat)(hn:1<=n)(l Bn n₀:Nat)(h10:10<=n₀)(r:Rd.a0Y)(hf:Rd.a6s r)(J Jx:List Int->World->Prop)
  (hY:∀ pre x W,J pre W->pre.length<(Rd.b0e (Cal.dT r.fr) r.ev 100 (Cal.yT r.fr) (Cal.mT r.fr)).length->YieldAt Fence.wide (n-1) Tryz.prog l #[.int .i64 x] W fun e W' =>
   (e=.returned (.bool true)/\J (pre++[x]) W'/\RK n₀ Bn W W')\/(e=.returned (.bool false)/\Jx (pre++[x]) W'))
  (W:World) (ht:Tab W) (hr:W.heap[Bn]?=some (a0u r)) (h0:J [] W):
  CallsIn Fence.wide n Tryz.prog 293 #[.func (.yield l) #[] #[],.pointer (some ⟨Bn,0,none⟩)] W fun e W'=>(∃ v,e=.returned v) /\
   ((∃ ys,ys=Rd.b0e (Cal.dT r.fr) r.ev 100 (Cal.yT r.fr) (Cal.mT r.fr)/\J ys W')\/(∃ pre,pre <+: Rd.b0e (Cal.dT r.fr) r.ev 100 (Cal.yT r.fr) (Cal.mT r.fr)/\Jx pre W')):=by
 have c9:=a4m hr;have e1:=hf.e1;have e2:=hf.e2;have f0:=hf.f0;have f1:=hf.f1;clear hf;obtain⟨mo,mn,my,mm⟩:=Rd.a6c f0 f1;obtain⟨g1,g2,g3,g4,g5,g6⟩:=(Cal.a2K _ _ _).1 mo;have HD:Hid (∀ y m d:Int,Cal.ok y m d=true->Cal.num y m d=r.fr->y=Cal.yT r.fr/\m=Cal.mT r.fr/\d=Cal.dT r.fr):=fun y m d h k=>Cal.c4g y m d r.fr h k
 have DA:=a0b (b5w r.fr W ht (by omega) (by omega));clear mo mn g5 g6;generalize hS:Rd.b0e (Cal.dT r.fr) r.ev 100 (Cal.yT r.fr) (Cal.mT r.fr)=S at *;generalize Cal.dT r.fr=dt at *;generalize Cal.yT r.fr=y0 at *;generalize Cal.mT r.fr=m0 at *;refine callsIn_of_wp Tryz.func293 rfl trivial ?_ rfl;simp only[Tryz.ntmps293,List.size_toArray,List.length_cons,List.length_nil,Nat.reduceAdd,Nat.reduceSub,Array.replicate_succ,Array.replicate_zero,List.push_toArray,List.append_toArray,List.nil_append,List.cons_append]
 gi_wp2_with (first
  |((try refine⟨trivial,?_⟩);gi_at_call 116;refine (callsIn_wide.2 DA.out).mono ?_;rintro e w1 ⟨y,m,d,rfl,hok,hnum,rfl⟩;obtain⟨rfl,rfl,rfl⟩:=HD.out y m d hok hnum))
 clear DA HD c9 hok hnum
 gi_loopw [3,4] (fun v u wr=>∃ (y m:Int) (f:Nat) (pre:List Int),v=.int .i64 y/\u=.int .i64 m/\S=pre++Rd.b0e d r.ev f y m/\2024<=y/\y<=2034/\1<=m/\m<=12/\24312<12*y+m+f/\J pre wr/\wr.heap[Bn]?=some (a0u r)/\Tab wr) (fun v u _=>(30000-(12*intOf v+intOf u)).toNat)
 case atStart=>exact⟨y,m,100,[],rfl,rfl,hS.symm,by omega,by omega,by omega,by omega,by omega,h0,hr,ht⟩
 case round =>
  obtain⟨y',m',f,pre,rfl,rfl,hx,a1,a2,a3,a4,a5,hJ,hR,hT⟩:=hrel;clear hr h0 ht;have IR:=a0b (b1Q y' m' wr hT);have hri:=Rd.a8Z (y:=y') (m:=m') a1 (by omega) a3 a4
  by_cases hc:Rd.reached y' m'=true
  ·have hle:=hri.1 hc;obtain⟨f',rfl⟩:∃ f',f=f'+1:=⟨f-1,by omega⟩;have q1:Rd.b0e d r.ev (f'+1) y' m'=Rd.a4s y' m' d++Rd.b0e d r.ev f' (Rd.a4E y' m' r.ev) (Rd.a3J m' r.ev):=by simp[Rd.b0e,hc]
   obtain⟨l1,l2,l3⟩:=Rd.b1N (y:=y') (m:=m') (ev:=r.ev);rw[q1] at hx;rw[hc] at IR
   cases hok:Cal.ok y' m' d
   ·have DY:=a0b (a9O y' m' d wr hT hok);have LA:=a0b (b3g y' m' r.ev wr (by omega) (by omega) a3 a4 e1 e2);have q2:Rd.a4s y' m' d=[]:=by simp[Rd.a4s,hok]
    have c1:=a3R hR;rw[q2,List.nil_append] at hx;clear hri hc q1 q2;generalize Rd.a4E y' m' r.ev=y2 at *;generalize Rd.a3J m' r.ev=m2 at *
    gi_wp2_with (first
     |((try refine⟨trivial,?_⟩);gi_at_call 294;refine (callsIn_wide.2 IR.out).mono ?_;rintro e w1 ⟨rfl,rfl⟩)
     |((try refine⟨trivial,?_⟩);gi_at_call 112;refine (callsIn_wide.2 DY.out).mono ?_;rintro e w1 ⟨rfl,rfl⟩))
    refine⟨fun _ h=>(by cases h),?_⟩
    gi_wp2_with (first
     |((try refine⟨trivial,?_⟩);gi_at_call 295;refine (callsIn_wide.2 LA.out).mono ?_;rintro e w1 ⟨rfl,rfl⟩))
    go_roundw
    case rel=>exact⟨y2,m2,f',pre,rfl,rfl,hx,by omega,by omega,l2,l3,by omega,hJ,hR,hT⟩
    case measure=>simp[intOf];omega
   ·have DY:=a0b (a7P y' m' d wr hT hok);have q2:Rd.a4s y' m' d=[Cal.num y' m' d]:=by simp[Rd.a4s,hok]
    rw[q2] at hx;clear hri hc q1 q2;generalize Cal.num y' m' d=z at *;have LA:=a0b (fun w=>b3g y' m' r.ev w (by omega) (by omega) a3 a4 e1 e2);generalize Rd.a4E y' m' r.ev=y2 at *;generalize Rd.a3J m' r.ev=m2 at *;obtain⟨fn,tmps,assign,body,hy,hRd⟩:=hY pre z wr hJ (by rw[hx];simp)
    gi_wp2_with (first
     |((try refine⟨trivial,?_⟩);gi_at_call 294;refine (callsIn_wide.2 IR.out).mono ?_;rintro e w1 ⟨rfl,rfl⟩)
     |((try refine⟨trivial,?_⟩);gi_at_call 112;refine (callsIn_wide.2 DY.out).mono ?_;rintro e w1 ⟨rfl,rfl⟩))
    refine hRd.mono ?_;rintro e W3 (⟨rfl,hJ3,hk3⟩|⟨rfl,hJx3⟩)
    ·have c1:=a3R (hk3.2.trans hR)
     gi_wp2_with (first
      |((try refine⟨trivial,?_⟩);gi_at_call 295;refine (callsIn_wide.2 (LA.out W3)).mono ?_;rintro e w2 ⟨rfl,rfl⟩))
     go_roundw
     case rel=>exact⟨y2,m2,f',pre++[z],rfl,rfl,by simp[hx],by omega,by omega,l2,l3,by omega,hJ3,hk3.2.trans hR,a3c hT hk3.1 h10⟩
     case measure=>simp[intOf];omega
    ·gi_wp2
     refine bodyPost_ret (results_none rfl _ _ _) rfl ?_;exact⟨⟨_,rfl⟩,.inr ⟨pre++[z],⟨Rd.b0e d r.ev f' y2 m2,by simp[hx]⟩,hJx3⟩⟩
  ·have q1:Rd.b0e d r.ev f y' m'=[]:=by cases f <;> simp[Rd.b0e,hc]
   have hc':Rd.reached y' m'=false:=by simpa using hc
   rw[q1,List.append_nil] at hx;subst hx;rw[hc'] at IR;clear hri q1 hc hc'
   gi_wp2_with (first
    |((try refine⟨trivial,?_⟩);gi_at_call 294;refine (callsIn_wide.2 IR.out).mono ?_;rintro e w1 ⟨rfl,rfl⟩))
   go_end0
   exact⟨⟨_,rfl⟩,.inl ⟨_,rfl,hJ⟩⟩
theorem c1i(r:Rd.a0Y)(w:World):
  Calls Tryz.prog 278 #[a1S r] w fun e w'=>e=.returned (.func (.func 296) #[] #[.pointer (some ⟨w.heap.size,0,none⟩)])/\w'=w.alloc (a0u r):=by
 unfold a1S
 go_enter Tryz.func278,Tryz.ntmps278
 go_wp2_with fail
 exact bodyPost_ret (v:=.func (.func 296) #[] #[.pointer (some ⟨w.heap.size,0,none⟩)]) (by simp[results,Tryz.results278,go_sem]) rfl ⟨rfl,rfl⟩
theorem b7D(r:Rd.a0Y)(w:World):
  Calls Tryz.prog 276 #[a1S r] w fun e w'=>e=.returned (.func (.func 292) #[] #[.pointer (some ⟨w.heap.size,0,none⟩)])/\w'=w.alloc (a0u r):=by
 unfold a1S
 go_enter Tryz.func276,Tryz.ntmps276
 go_wp2_with fail
 exact bodyPost_ret (v:=.func (.func 292) #[] #[.pointer (some ⟨w.heap.size,0,none⟩)]) (by simp[results,Tryz.results276,go_sem]) rfl ⟨rfl,rfl⟩
theorem b4U(r:Rd.a0Y)(w:World):
  Calls Tryz.prog 277 #[a1S r] w fun e w'=>e=.returned (.func (.func 293) #[] #[.pointer (some ⟨w.heap.size,0,none⟩)])/\w'=w.alloc (a0u r):=by
 unfold a1S
 go_enter Tryz.func277,Tryz.ntmps277
 go_wp2_with fail
 exact bodyPost_ret (v:=.func (.func 293) #[] #[.pointer (some ⟨w.heap.size,0,none⟩)]) (by simp[results,Tryz.results277,go_sem]) rfl ⟨rfl,rfl⟩
def itF(r:Rd.a0Y):Nat:=if r.pc=2 then 292 else if r.pc=3 then 293 else 296
theorem a9C(r:Rd.a0Y)(w:World):
  Calls Tryz.prog 249 #[a1S r] w fun e w'=>e=.returned (.func (.func (itF r)) #[] #[.pointer (some ⟨w.heap.size+1,0,none⟩)])/\w'=(w.alloc (a0u r)).alloc (a0u r):=by
 have WK:=a0b (b7D r (w.alloc (a0u r)));have MO:=a0b (b4U r (w.alloc (a0u r)));have DA:=a0b (c1i r (w.alloc (a0u r)));have hr:=World.alloc_heap_new w (a0u r);have hs:(w.alloc (a0u r)).heap.size=w.heap.size+1:=by simp
 have x0:=a7u hr;have x1:=a3R hr;have x2:=a7t hr;have x3:=a7s hr;have x4:=a7r hr;have x5:=a7q hr;have x6:=a7p hr;have x7:=a7o hr;have x8:=a7n hr;have x9:=a4m hr;have x10:=a6E hr;have x11:=a6D hr;have x12:=a6C hr;have x13:=a6B hr;rw[hs] at WK MO DA;clear hr hs;unfold a1S at *;obtain⟨X,hX⟩:∃ X,X=w.alloc (a0u r):=⟨_,rfl⟩;rw[<- hX] at WK MO DA x0 x1 x2 x3 x4 x5 x6 x7 x8 x9 x10 x11 x12 x13;have HX:=a0b hX;clear hX
 by_cases h2:r.pc=2
 ·have hb:(r.pc==2)=true:=by simpa using h2
  have ei:itF r=292:=by unfold itF;rw[if_pos h2]
  rw[ei];clear ei h2
  go_enter Tryz.func249,Tryz.ntmps249
  go_upto_region 1 with fail
  change Code.wp _ _ _ _ (w.alloc (a0u r));rw[<- HX.out]
  go_wp2_with (first
   |(go_at_call 276;refine WK.out.mono ?_;rintro e w1 ⟨rfl,rfl⟩))
  exact bodyPost_ret (v:=.func (.func 292) #[] #[.pointer (some ⟨w.heap.size+1,0,none⟩)]) (by simp[results,Tryz.results249,go_sem]) rfl ⟨rfl,by rw[HX.out]⟩
 ·have hb:(r.pc==2)=false:=by simpa using h2
  by_cases h3:r.pc=3
  ·have hb3:(r.pc==3)=true:=by simpa using h3
   have ei:itF r=293:=by unfold itF;rw[if_neg h2,if_pos h3]
   rw[ei];clear ei h3
   go_enter Tryz.func249,Tryz.ntmps249
   go_upto_region 1 with fail
   change Code.wp _ _ _ _ (w.alloc (a0u r));rw[<- HX.out]
   go_wp2_with (first
    |(go_at_call 277;refine MO.out.mono ?_;rintro e w1 ⟨rfl,rfl⟩))
   exact bodyPost_ret (v:=.func (.func 293) #[] #[.pointer (some ⟨w.heap.size+1,0,none⟩)]) (by simp[results,Tryz.results249,go_sem]) rfl ⟨rfl,by rw[HX.out]⟩
  ·have hb3:(r.pc==3)=false:=by simpa using h3
   have ei:itF r=296:=by unfold itF;rw[if_neg h2,if_neg h3]
   rw[ei];clear ei
   go_enter Tryz.func249,Tryz.ntmps249
   go_upto_region 1 with fail
   change Code.wp _ _ _ _ (w.alloc (a0u r));rw[<- HX.out]
   go_wp2_with (first
    |(go_at_call 278;refine DA.out.mono ?_;rintro e w1 ⟨rfl,rfl⟩))
   exact bodyPost_ret (v:=.func (.func 296) #[] #[.pointer (some ⟨w.heap.size+1,0,none⟩)]) (by simp[results,Tryz.results249,go_sem]) rfl ⟨rfl,by rw[HX.out]⟩
theorem b6P(n:Nat)(hn:1<=n)(Bn n₀:Nat)(h10:10<=n₀)(r:Rd.a0Y)(hf:Rd.a6s r)(w:World)(hB:Bn<w.heap.size)(hn₀:n₀<=w.heap.size)(ht:Tab w)(hr:w.heap[Bn]?=some (a0u r)):
  SeqStopsK Fence.wide n Tryz.prog (itF r) #[.pointer (some ⟨Bn,0,none⟩)] (fun x:Int=>#[Value.int .i64 x]) (RK n₀ Bn) (fun ys=>ys=Rd.seq r) (fun pre=>pre <+: Rd.seq r) (Rd.seq r).length w:=by
 intro l J Jx W hW _ _ hY h0;have hr':W.heap[Bn]?=some (a0u r):=(hW.block Bn hB).trans hr;have ht':Tab W:=a3c ht hW (by omega)
 by_cases h2:r.pc=2
 ·have ei:itF r=292:=by unfold itF;rw[if_pos h2]
  have es:Rd.seq r=Rd.a9Y r.acc r.fr r.ev 800 (r.fr-r.fr % 7):=by unfold Rd.seq;rw[if_pos h2]
  rw[es] at hY ⊢;rw[ei];exact b7E Fence.wide n trivial rfl hn l Bn n₀ r hf J Jx hY W hr' h0
 ·by_cases h3:r.pc=3
  ·have ei:itF r=293:=by unfold itF;rw[if_neg h2,if_pos h3]
   have es:Rd.seq r=Rd.b0e (Cal.dT r.fr) r.ev 100 (Cal.yT r.fr) (Cal.mT r.fr):=by unfold Rd.seq;rw[if_neg h2,if_pos h3]
   rw[es] at hY ⊢;rw[ei];exact b4V n hn l Bn n₀ h10 r hf J Jx hY W ht' hr' h0
  ·have ei:itF r=296:=by unfold itF;rw[if_neg h2,if_neg h3]
   have es:Rd.seq r=Rd.b0f r.ev 800 r.fr:=by unfold Rd.seq;rw[if_neg h2,if_neg h3]
   rw[es] at hY ⊢;rw[ei];exact c1j Fence.wide n trivial rfl hn l Bn n₀ r hf J Jx hY W hr' h0
attribute [local go_sem] Oper.semAt_some
structure FD(w W:World)(r:Rd.a0Y)(la mo:Int)(pre:List Int):Prop where
 l:Boxed W (w.heap.size+1) 3 (.int .i64 la)
 m:Boxed W (w.heap.size+2) 3 (.int .i64 mo)
 d:∃ v,Boxed W (w.heap.size+3) 38 v/\W.ownsRow (w.heap.size+6) 3 1 v pre.length (pre.map (Value.int .i64))
 ru:W.heap[w.heap.size+5]?=some (a0u r)
 bl:Below w.heap.size w W
 sz:w.heap.size+6<=W.heap.size
 le:∀ x∈pre,x<=la
 ml:(pre.length:Int)<=mo
theorem a6Z{W':World}{row:Option Nat}{t:TypeId}(h:Boxed W B t v)(hg:W.grownBy W' row)(hr:∀ r,row=some r->∃ o:Obj,W.heap[r]?=some o/\o.isCells=false):Boxed W' B t v :=
 h.kept hg (fun e=>by
  obtain⟨o,ho,hc⟩:=hr B e.symm
  rw[show W.heap[B]?=_ from h] at ho;cases ho;cases hc)
theorem b6Y(w:World)(r:Rd.a0Y)(la mo:Int)(hB:w.heap.size<=B):OwnFrom B (fun pre W=>FD w W r la mo pre):=by
 intro pre W W' row h hg hrow;have hr:∀ r,row=some r->∃ o:Obj,W.heap[r]?=some o/\o.isCells=false:=fun r e=>(hrow r e).2
 obtain⟨v,hv,ho⟩:=h.d;refine⟨a6Z h.l hg hr,a6Z h.m hg hr,⟨v,a6Z hv hg hr,ho.kept hg ?_⟩,(hg.block _ (by have:=h.sz;omega) (fun e=>?_)).trans h.ru,h.bl.grown hg h.bl.size (fun k e=>Nat.le_trans hB (hrow k e).1),Nat.le_trans h.sz hg.size,h.le,h.ml⟩
 ·rcases ho.2 with ⟨rfl,_⟩|⟨g,cap,cur,rfl,_,hgb,_⟩
  ·exact .inl rfl
  ·refine .inr fun e'=>?_
   obtain⟨o,ho,hc⟩:=hr g (by simpa[Value.ownBlock] using e'.symm);rw[hgb] at ho;cases ho;cases hc
 ·obtain⟨o,ho,hc⟩:=hr _ e.symm;rw[h.ru] at ho;cases ho;cases hc
theorem c0Q{r:Rd.a0Y}{pre:List Int}(h:FD w W r la mo pre)(hv:Boxed W (w.heap.size+3) 38 v)(ho:W.ownsRow (w.heap.size+6) 3 1 v pre.length (pre.map (Value.int .i64))){tmp:Obj}{v':Value}(hown:w1.ownsRow (w.heap.size+6) 3 1 v' (pre.length+1) (pre.map (Value.int .i64)++[.int .i64 x]))(hg:(W.alloc tmp).grownBy w1 v.ownBlock)(hx:x<=la)(hm:(pre.length:Int)+1<=mo):
  Boxed w1 (w.heap.size+3) 38 v/\KeepsFrom (w.heap.size+6) W (w1.setCell ⟨w.heap.size+3,0,none⟩ v')/\RK w.heap.size (w.heap.size+5) W (w1.setCell ⟨w.heap.size+3,0,none⟩ v')/\FD w (w1.setCell ⟨w.heap.size+3,0,none⟩ v') r la mo (pre++[x]):=by
 have hs:=h.sz;have ob:∀ b,v.ownBlock=some b->w.heap.size+6<=b:=fun b hb=>(ho.lt b hb).1
 have ob':∀ b,v'.ownBlock=some b->w.heap.size+6<=b:=fun b hb=>(hown.lt b hb).1
 have k1:∀ b,b<w.heap.size+6->w1.heap[b]?=W.heap[b]?:=fun b hb =>
  (hg.block b (by simp;omega) (fun e=>by have:=ob b e.symm;omega)).trans (Below.heap_alloc W tmp b (by omega))
 have k2:∀ b,b≠w.heap.size+3->(w1.setCell ⟨w.heap.size+3,0,none⟩ v').heap[b]?=w1.heap[b]?:=fun b hb=>Below.heap_setCell _ _ _ b hb
 have hv1:Boxed w1 (w.heap.size+3) 38 v:=(k1 _ (by omega)).trans hv;have sz1:W.heap.size<=w1.heap.size:=by have:=hg.size;simp at this;omega
 have bW:Below w.heap.size W (w1.setCell ⟨w.heap.size+3,0,none⟩ v'):=(((zr _ W).alloc (by omega) tmp).grown hg (by simp;omega) (fun j e=>by have:=ob j e;omega)).setCell (p:=⟨w.heap.size+3,0,none⟩) (by show w.heap.size<=w.heap.size+3;omega) v';refine⟨hv1,?_,⟨bW,(k2 _ (by omega)).trans (k1 _ (by omega))⟩,⟨((k2 _ (by omega)).trans (k1 _ (by omega))).trans h.l,((k2 _ (by omega)).trans (k1 _ (by omega))).trans h.m,⟨v',hv1.set v',?_⟩,((k2 _ (by omega)).trans (k1 _ (by omega))).trans h.ru,h.bl.trans bW,?_,?_,?_⟩⟩
 ·refine (((KeepsOthers.alloc W tmp).trans (KeepsOthers.of_grownBy hg fun j o ej hj=>?_)).trans (KeepsOthers.setCell _ _ _)).from _
  rcases (ho.alloc tmp).2 with ⟨rfl,_⟩|⟨g,cap,cur,rfl,_,hgb,_⟩
  ·simp[Value.ownBlock] at ej
  ·obtain rfl:g=j:=by simpa[Value.ownBlock] using ej
   rw[hgb] at hj;cases hj;rfl
 ·have:=hown.kept (grownBy_setCell' w1 (w.heap.size+3) v') (.inr (fun e=>by have:=ob' _ e;omega))
  simpa using this
 ·have:=(grownBy_setCell' w1 (w.heap.size+3) v').size;omega
 ·intro y hy;rcases List.mem_append.1 hy with hy|hy
  ·exact h.le y hy
  ·simp at hy;omega
 ·simp;omega
structure FD0(w Y:World)(r:Rd.a0Y)(la mo:Int):Prop where
 ru:Y.heap[w.heap.size]?=some (a0u r)
 l:Boxed Y (w.heap.size+1) 3 (.int .i64 la)
 m:Boxed Y (w.heap.size+2) 3 (.int .i64 mo)
 d:Boxed Y (w.heap.size+3) 38 (.slice none 0 0)
 bl:Below w.heap.size w Y
 sz:Y.heap.size=w.heap.size+4
theorem fd0(w:World)(r:Rd.a0Y)(la mo:Int):FD0 w ((((w.alloc (a0u r)).alloc (.cells #[.int .i64 la] 3)).alloc (.cells #[.int .i64 mo] 3)).alloc (.cells #[.slice none 0 0] 38)) r la mo:=by
 have b0:=World.alloc_heap_new w (a0u r);have b1:=Boxed.new (w.alloc (a0u r)) 3 (.int .i64 la);have b2:=Boxed.new ((w.alloc (a0u r)).alloc (.cells #[.int .i64 la] 3)) 3 (.int .i64 mo);have b3:=Boxed.new (((w.alloc (a0u r)).alloc (.cells #[.int .i64 la] 3)).alloc (.cells #[.int .i64 mo] 3)) 38 (.slice none 0 0);simp only[World.size_alloc] at b1 b2 b3;have k:∀ (W:World) (o:Obj) (b:Nat) (x:Obj),W.heap[b]?=some x->(W.alloc o).heap[b]?=some x:=fun W o b x h=>(Below.heap_alloc W o b (Array.getElem?_eq_some_iff.1 h).1).trans h
 exact⟨k _ _ _ _ (k _ _ _ _ (k _ _ _ _ b0)),(b1.alloc _).alloc _,b2.alloc _,b3,((((zr _ w).alloc (zq _) _).alloc (by simp) _).alloc (by simp;omega) _).alloc (by simp;omega) _,by simp⟩
theorem c7x(w:World)(r:Rd.a0Y)(la mo:Int):FD0 w (((((w.alloc (a0u r)).alloc (.cells #[.int .i64 la] 3)).alloc (.cells #[.int .i64 mo] 3)).drew).alloc (.cells #[.slice none 0 0] 38)) r la mo:=by
 obtain⟨h1,h2,h3,h4,h5,h6⟩:=fd0 w r la mo;exact⟨h1,h2,h3,h4,h5.drew,h6⟩
theorem b6X{r:Rd.a0Y}(hl:Boxed Y (w.heap.size+1) 3 (.int .i64 la))(hm:Boxed Y (w.heap.size+2) 3 (.int .i64 mo))(hd:Boxed Y (w.heap.size+3) 38 (.slice none 0 0))(hb:Below w.heap.size w Y)(hs:Y.heap.size=w.heap.size+4)(h0:0<=mo):FD w ((Y.alloc (a0u r)).alloc (a0u r)) r la mo []:=by
 have b:=World.alloc_heap_new (Y.alloc (a0u r)) (a0u r);rw[World.size_alloc,hs] at b;exact⟨(hl.alloc _).alloc _,(hm.alloc _).alloc _,⟨_,(hd.alloc _).alloc _,World.ownsRow_nil _ _ _ _⟩,b,(hb.alloc (by omega) _).alloc (by simp;omega) _,by simp;omega,by simp,by simpa using h0⟩
theorem RK.trans{A B C:World}(h:RK n₀ Bn A B)(k:RK n₀ Bn B C):RK n₀ Bn A C:=⟨h.1.trans k.1,k.2.trans h.2⟩
theorem RK.put(hn:n₀<=w.heap.size)(hB:Bn<w.heap.size)(W:World)(l:Nat)(o o':Obj)(hl:w.heap.size<=l)(h:W.heap[l]?=some o)(h1:o.isCells=false)(h2:o.isWalk=false):RK n₀ Bn W (W.putObj l o') :=
 ⟨belowK_b hn W l o o' hl h h1 h2,(grownBy_putObj' W l o').block Bn (by have:=(Array.getElem?_eq_some_iff.1 h).1;omega) (fun e=>by cases e;omega)⟩
theorem b3n(r:Rd.a0Y)(args:Array Value)(w:World):(callFunc (itF r) args).run Tryz.prog w=.ok (.enter (itF r) args) w:=by
 unfold itF
 split
 ·exact enters_of Tryz.func292 (by kernel_rfl) rfl args w
 ·split
  ·exact enters_of Tryz.func293 (by kernel_rfl) rfl args w
  ·exact enters_of Tryz.func296 (by kernel_rfl) rfl args w
theorem b1C{size:Nat}(h:w.ownsRow B e size v n xs):∃ a cap,v=.slice a n cap:=by
 rcases h.2 with ⟨rfl,h0⟩|⟨g,cap,_,rfl,_⟩
 ·rw[h0];exact⟨_,_,rfl⟩
 ·exact⟨_,_,rfl⟩
theorem a9c{C size:Nat}(h:w.ownsRow B e size v n xs)(hc:C<=B):w.ownsRow C e size v n xs :=
 ⟨h.1,h.2.imp id (fun ⟨g,cap,cur,h1,h2,h3⟩=>⟨g,cap,cur,h1,Nat.le_trans hc h2,h3⟩)⟩
theorem a5t{k:Nat}(h:∀ x∈l,p x=true)(hk:l.length<=k):(l.takeWhile p).take k=l:=by
 have e:l.takeWhile p=l:=by
  induction l with
  |nil=>rfl
  |cons a l ih=>rw[List.takeWhile_cons,h a (by simp),if_pos rfl,ih (fun x hx=>h x (by simp[hx])) (by simp at hk;omega)]
 rw[e,List.take_of_length_le hk]
theorem b2D{pre rest:List Int}{k:Nat}(h:∀ y∈pre,p y=true)(hk:pre.length<=k)(hx:p x=false\/pre.length=k):((pre++x :: rest).takeWhile p).take k=pre:=by
 have e:(pre++x :: rest).takeWhile p=pre++(x :: rest).takeWhile p:=List.takeWhile_append_of_pos h;rw[e];rcases hx with hx|hx
 ·rw[List.takeWhile_cons,hx];simp[List.take_of_length_le hk]
 ·rw[<- hx,List.take_left]
def laO(r:Rd.a0Y):Int:=if 0<r.ti then 727 else r.un
def moO(r:Rd.a0Y):Int:=if 0<r.ti then r.ti else 41
theorem a3N(r:Rd.a0Y):Rd.a0t r=((Rd.seq r).takeWhile (fun d=>decide (d<=laO r))).take (moO r).toNat:=by
 unfold Rd.a0t laO moO
 split
 ·rfl
 ·rfl
theorem b2a(r:Rd.a0Y)(hf:Rd.a6s r)(w:World)(ht:Tab w)(h10:10<=w.heap.size):
  Calls Tryz.prog 199 #[a1S r] w fun e w'=>∃ v,e=.returned v/\w'.ownsRow w.heap.size 3 1 v (Rd.a0t r).length ((Rd.a0t r).map (Value.int .i64))/\Below w.heap.size w w':=by
 obtain⟨i0,hi0,hz0,hz1,hz2⟩:=info_parts b1S;have t1:=hf.t1;refine (callsIn_wide (n:=3)).1 ?_;unfold a1S;refine callsIn_of_wp_marks Tryz.func199 rfl trivial ?_ rfl;simp only[Tryz.ntmps199,List.size_toArray,List.length_cons,List.length_nil,Nat.reduceAdd,Nat.reduceSub,Array.replicate_succ,Array.replicate_zero,List.push_toArray,List.append_toArray,List.nil_append,List.cons_append];refine wpIn_wide.2 ?_
 by_cases hti:0<r.ti
 ·have elm:laO r=727/\moO r=r.ti:=by unfold laO moO;rw[if_pos hti,if_pos hti];exact⟨rfl,rfl⟩
  have HY:Hid (FD0 w (((((w.alloc (a0u r)).alloc (.cells #[.int .i64 727] 3)).alloc (.cells #[.int .i64 r.ti] 3)).drew).alloc (.cells #[.slice none 0 0] 38)) r 727 r.ti):=c7x w r 727 r.ti;have EL:=a0b elm;clear elm
  go_upto_region 4 with fail
  go_region
  go_upto_region 5 with fail
  change Code.wp _ _ _ _ (((((w.alloc (a0u r)).alloc (.cells #[.int .i64 727] 3)).alloc (.cells #[.int .i64 r.ti] 3)).drew).alloc (.cells #[.slice none 0 0] 38));generalize ((((w.alloc (a0u r)).alloc (.cells #[.int .i64 727] 3)).alloc (.cells #[.int .i64 r.ti] 3)).drew).alloc (.cells #[.slice none 0 0] 38)=Y at HY ⊢;obtain⟨hYr,hYl,hYm,hYd,hYb,hYs⟩:=HY.out;have EN:=a0b (a9C r Y);have HZ:=a0b (b6X (r:=r) hYl hYm hYd hYb hYs);have TZ:Hid (Tab ((Y.alloc (a0u r)).alloc (a0u r))):=a3c ht (HZ.out (by omega)).bl h10;rw[hYs] at EN;unfold a1S at EN;have x0:=a7u hYr;have x1:=a3R hYr;have x2:=a7t hYr;have x3:=a7s hYr;have x4:=a7r hYr;have x5:=a7q hYr;have x6:=a7p hYr;have x7:=a7o hYr;have x8:=a7n hYr;have x9:=a4m hYr;have x10:=a6E hYr;have x11:=a6D hYr;have x12:=a6C hYr;have x13:=a6B hYr;clear hYr hYl hYm hYd hYb HY
  go_wp2_with (first
   |(go_at_call 249;refine EN.out.mono ?_;rintro e w1 ⟨rfl,rfl⟩))
  clear EN x0 x1 x2 x3 x4 x5 x6 x7 x8 x9 x10 x11 x12 x13;have hZs:((Y.alloc (a0u r)).alloc (a0u r)).heap.size=w.heap.size+6:=by simp[hYs]
  generalize (Y.alloc (a0u r)).alloc (a0u r)=Z at HZ TZ hZs ⊢;have hF:=HZ.out (by omega);have HS:=a0b (b6P 2 (by omega) (w.heap.size+5) w.heap.size h10 r hf Z (by omega) (by omega) TZ.out hF.ru);refine (wpIn_wide (n:=3)).1 ?_
  refine wpIn_rangeFunc_ownG rfl (by omega) (gf:=itF r) (lb:=#[.pointer (some ⟨w.heap.size+5,0,none⟩)]) rfl trivial (b3n r) HS.out (fun h k=>RK.trans h k) (RK.put (by omega) (by omega)) (zr _ _) (fun _=>rfl)
   (fun pre W=>FD w W r 727 r.ti pre) (fun c pre' W=>c=.exit 0/\∃ pre x,pre'=pre++[x]/\FD w W r 727 r.ti pre/\(727<x\/(pre.length:Int)=r.ti))
   (b6Y w r 727 r.ti (by omega)) (fun c s A B row hs hg hr=>by obtain⟨e,pre,x,e2,h,h3⟩:=hs;exact⟨e,pre,x,e2,b6Y w r 727 r.ti (by omega) pre A B row h hg hr,h3⟩) hF
   (fun x=>{ tmps:=#[.agg #[.int .i64 r.pc,.int .i64 r.ev,.bool (isd r.acc 0),.bool (isd r.acc 1),.bool (isd r.acc 2),.bool (isd r.acc 3),.bool (isd r.acc 4),.bool (isd r.acc 5),.bool (isd r.acc 6),.int .i64 r.fr,.int .i64 r.mn,.int .i64 r.mi,.int .i64 r.ti,.int .i64 r.un],.pointer (some ⟨w.heap.size,0,none⟩),.slice none 0 0,.pointer (some ⟨w.heap.size+1,0,none⟩),.pointer (some ⟨w.heap.size+1+1,0,none⟩),.pointer (some ⟨w.heap.size+1+1+1,0,none⟩),.int .i64 x,.pointer (some ⟨w.heap.size,13,none⟩),.int .i64 r.un,.pointer (some ⟨w.heap.size,12,none⟩),.int .i64 r.ti,.bool true,.pointer (some ⟨w.heap.size,12,none⟩),.int .i64 r.ti,.agg #[.int .i64 r.pc,.int .i64 r.ev,.bool (isd r.acc 0),.bool (isd r.acc 1),.bool (isd r.acc 2),.bool (isd r.acc 3),.bool (isd r.acc 4),.bool (isd r.acc 5),.bool (isd r.acc 6),.int .i64 r.fr,.int .i64 r.mn,.int .i64 r.mi,.int .i64 r.ti,.int .i64 r.un],.func (.func (itF r)) #[] #[.pointer (some ⟨w.heap.size+5,0,none⟩)],.int .i64 x,undef,undef,undef,undef,undef,undef,undef,undef,undef,undef,undef,undef,undef,undef],defers:=[] }) ?assign ?body ?done ?stop
  case assign =>
   intro l x W K hK
   gi_wp2
   exact hK
  case body =>
   rintro l pre x W h hlt;obtain⟨v,hv,hrow⟩:=h.d;have hcl:=h.l.cell;have hcm:=h.m.cell;have hcd:=hv.cell;have hml:=h.ml;have HI:=a0b h;obtain⟨a0,cap0,rfl⟩:=b1C hrow;have hsz:w.heap.size+6<=W.heap.size:=h.sz
   by_cases c1:727<x
   ·clear h hrow hv
    gi_wp2
    exact⟨KeepsFrom.refl _ _,rfl,pre,x,rfl,HI.out,.inl c1⟩
   ·by_cases c2:(pre.length:Int)=r.ti
    ·have c2b:((pre.length:Int)==r.ti)=true:=by simpa using c2
     have C2:=a0b c2;clear h hrow hv c2
     gi_wp2
     exact⟨KeepsFrom.refl _ _,rfl,pre,x,rfl,HI.out,.inr C2.out⟩
    ·have c2b:((pre.length:Int)==r.ti)=false:=by simpa using c2
     clear h
     gi_wp2_with (first
      |(gi_at_builtin;refine wpListIn_append_own _ rfl _ _ 38 rfl (w.heap.size+6) 3 i0 (.int .i64 0) 1 8 Tryz.underlying38 hi0 hz0 hz1 hz2 rfl (by decide) _ _ _ rfl (hrow.alloc _) ⟨W.heap.size,0,none⟩ 1 1 [.int .i64 x] rfl rfl (cell_one_new _ _ _) (by simp[Value.oneCell']) (by unfold maxLen;omega) (by omega) (by simp;omega) ?_;intro v' w1 hown' hgrow _;obtain⟨g',cap',rfl⟩:=ownsRow_succ hown';obtain⟨hv1,hk2,hrk,hfd⟩:=c0Q HI.out hv hrow hown' hgrow (by omega) (by omega);have hc1:=hv1.cell;have hf1:=hv1.frozen))
     exact⟨hk2,hrk,hfd⟩
  case done =>
   rintro D ys W hD rfl h hK
   have ED:Hid (Rd.a0t r=Rd.seq r):=by
    show Rd.a0t r=Rd.seq r;have h0:=h.ml;rw[a3N,EL.out.1,EL.out.2];exact a5t (fun y hy=>by simpa using h.le y hy) (by omega)
   obtain⟨v,hv,hrow⟩:=h.d;have hc:=hv.cell;have hb:=h.bl;obtain⟨a0,cap0,rfl⟩:=b1C hrow;clear h
   go_wp2_with fail
   refine⟨by simp,.inl ⟨_,_,rfl,run_takeDeferred hK,?_⟩⟩;refine⟨_,results_tmp rfl _ _ _,_,rfl,?_,hb.trans (belowK_b (w:=w) (zq _) W D _ _ (by omega) hK rfl rfl)⟩;rw[ED.out];exact ownsRow_putObj (a9c hrow (by omega)) _ hK rfl
  case stop =>
   rintro D c pre' W hD hSp ⟨rfl,pre,x,rfl,h,hx⟩ hK
   have ED:Hid (Rd.a0t r=pre):=by
    obtain⟨rest,hrest⟩:=hSp;show Rd.a0t r=pre;have h0:=h.ml;rw[a3N,EL.out.1,EL.out.2,<- hrest,List.append_assoc];exact b2D (fun y hy=>by simpa using h.le y hy) (by omega) (hx.imp (fun e=>by simpa using e) (fun e=>by omega))
   obtain⟨v,hv,hrow⟩:=h.d;have hc:=hv.cell;have hb:=h.bl;obtain⟨a0,cap0,rfl⟩:=b1C hrow;clear h;refine wpIn_wide.2 ?_
   go_wp2_with fail
   refine⟨by simp,.inl ⟨_,_,rfl,run_takeDeferred hK,?_⟩⟩;refine⟨_,results_tmp rfl _ _ _,_,rfl,?_,hb.trans (belowK_b (w:=w) (zq _) W D _ _ (by omega) hK rfl rfl)⟩;rw[ED.out];exact ownsRow_putObj (a9c hrow (by omega)) _ hK rfl
 ·have elm:laO r=r.un/\moO r=41:=by unfold laO moO;rw[if_neg hti,if_neg hti];exact⟨rfl,rfl⟩
  have HY:Hid (FD0 w ((((w.alloc (a0u r)).alloc (.cells #[.int .i64 r.un] 3)).alloc (.cells #[.int .i64 41] 3)).alloc (.cells #[.slice none 0 0] 38)) r r.un 41):=fd0 w r r.un 41;have EL:=a0b elm;clear elm
  go_upto_region 5 with fail
  change Code.wp _ _ _ _ ((((w.alloc (a0u r)).alloc (.cells #[.int .i64 r.un] 3)).alloc (.cells #[.int .i64 41] 3)).alloc (.cells #[.slice none 0 0] 38));generalize (((w.alloc (a0u r)).alloc (.cells #[.int .i64 r.un] 3)).alloc (.cells #[.int .i64 41] 3)).alloc (.cells #[.slice none 0 0] 38)=Y at HY ⊢;obtain⟨hYr,hYl,hYm,hYd,hYb,hYs⟩:=HY.out;have EN:=a0b (a9C r Y);have HZ:=a0b (b6X (r:=r) hYl hYm hYd hYb hYs);have TZ:Hid (Tab ((Y.alloc (a0u r)).alloc (a0u r))):=a3c ht (HZ.out (by omega)).bl h10;rw[hYs] at EN;unfold a1S at EN;have x0:=a7u hYr;have x1:=a3R hYr;have x2:=a7t hYr;have x3:=a7s hYr;have x4:=a7r hYr;have x5:=a7q hYr;have x6:=a7p hYr;have x7:=a7o hYr;have x8:=a7n hYr;have x9:=a4m hYr;have x10:=a6E hYr;have x11:=a6D hYr;have x12:=a6C hYr;have x13:=a6B hYr;clear hYr hYl hYm hYd hYb HY
  go_wp2_with (first
   |(go_at_call 249;refine EN.out.mono ?_;rintro e w1 ⟨rfl,rfl⟩))
  clear EN x0 x1 x2 x3 x4 x5 x6 x7 x8 x9 x10 x11 x12 x13;have hZs:((Y.alloc (a0u r)).alloc (a0u r)).heap.size=w.heap.size+6:=by simp[hYs]
  generalize (Y.alloc (a0u r)).alloc (a0u r)=Z at HZ TZ hZs ⊢;have hF:=HZ.out (by omega);have HS:=a0b (b6P 2 (by omega) (w.heap.size+5) w.heap.size h10 r hf Z (by omega) (by omega) TZ.out hF.ru);refine (wpIn_wide (n:=3)).1 ?_
  refine wpIn_rangeFunc_ownG rfl (by omega) (gf:=itF r) (lb:=#[.pointer (some ⟨w.heap.size+5,0,none⟩)]) rfl trivial (b3n r) HS.out (fun h k=>RK.trans h k) (RK.put (by omega) (by omega)) (zr _ _) (fun _=>rfl)
   (fun pre W=>FD w W r r.un 41 pre) (fun c pre' W=>c=.exit 0/\∃ pre x,pre'=pre++[x]/\FD w W r r.un 41 pre/\(r.un<x\/(pre.length:Int)=41))
   (b6Y w r r.un 41 (by omega)) (fun c s A B row hs hg hr=>by obtain⟨e,pre,x,e2,h,h3⟩:=hs;exact⟨e,pre,x,e2,b6Y w r r.un 41 (by omega) pre A B row h hg hr,h3⟩) hF
   (fun x=>{ tmps:=#[.agg #[.int .i64 r.pc,.int .i64 r.ev,.bool (isd r.acc 0),.bool (isd r.acc 1),.bool (isd r.acc 2),.bool (isd r.acc 3),.bool (isd r.acc 4),.bool (isd r.acc 5),.bool (isd r.acc 6),.int .i64 r.fr,.int .i64 r.mn,.int .i64 r.mi,.int .i64 r.ti,.int .i64 r.un],.pointer (some ⟨w.heap.size,0,none⟩),.slice none 0 0,.pointer (some ⟨w.heap.size+1,0,none⟩),.pointer (some ⟨w.heap.size+1+1,0,none⟩),.pointer (some ⟨w.heap.size+1+1+1,0,none⟩),.int .i64 x,.pointer (some ⟨w.heap.size,13,none⟩),.int .i64 r.un,.pointer (some ⟨w.heap.size,12,none⟩),.int .i64 r.ti,.bool false,undef,undef,.agg #[.int .i64 r.pc,.int .i64 r.ev,.bool (isd r.acc 0),.bool (isd r.acc 1),.bool (isd r.acc 2),.bool (isd r.acc 3),.bool (isd r.acc 4),.bool (isd r.acc 5),.bool (isd r.acc 6),.int .i64 r.fr,.int .i64 r.mn,.int .i64 r.mi,.int .i64 r.ti,.int .i64 r.un],.func (.func (itF r)) #[] #[.pointer (some ⟨w.heap.size+5,0,none⟩)],.int .i64 x,undef,undef,undef,undef,undef,undef,undef,undef,undef,undef,undef,undef,undef,undef],defers:=[] }) ?assign ?body ?done ?stop
  case assign =>
   intro l x W K hK
   gi_wp2
   exact hK
  case body =>
   rintro l pre x W h hlt;obtain⟨v,hv,hrow⟩:=h.d;have hcl:=h.l.cell;have hcm:=h.m.cell;have hcd:=hv.cell;have hml:=h.ml;have HI:=a0b h;obtain⟨a0,cap0,rfl⟩:=b1C hrow;have hsz:w.heap.size+6<=W.heap.size:=h.sz
   by_cases c1:r.un<x
   ·clear h hrow hv
    gi_wp2
    exact⟨KeepsFrom.refl _ _,rfl,pre,x,rfl,HI.out,.inl c1⟩
   ·by_cases c2:(pre.length:Int)=41
    ·have c2b:((pre.length:Int)==41)=true:=by simpa using c2
     have C2:=a0b c2;clear h hrow hv c2
     gi_wp2
     exact⟨KeepsFrom.refl _ _,rfl,pre,x,rfl,HI.out,.inr C2.out⟩
    ·have c2b:((pre.length:Int)==41)=false:=by simpa using c2
     clear h
     gi_wp2_with (first
      |(gi_at_builtin;refine wpListIn_append_own _ rfl _ _ 38 rfl (w.heap.size+6) 3 i0 (.int .i64 0) 1 8 Tryz.underlying38 hi0 hz0 hz1 hz2 rfl (by decide) _ _ _ rfl (hrow.alloc _) ⟨W.heap.size,0,none⟩ 1 1 [.int .i64 x] rfl rfl (cell_one_new _ _ _) (by simp[Value.oneCell']) (by unfold maxLen;omega) (by omega) (by simp;omega) ?_;intro v' w1 hown' hgrow _;obtain⟨g',cap',rfl⟩:=ownsRow_succ hown';obtain⟨hv1,hk2,hrk,hfd⟩:=c0Q HI.out hv hrow hown' hgrow (by omega) (by omega);have hc1:=hv1.cell;have hf1:=hv1.frozen))
     exact⟨hk2,hrk,hfd⟩
  case done =>
   rintro D ys W hD rfl h hK
   have ED:Hid (Rd.a0t r=Rd.seq r):=by
    show Rd.a0t r=Rd.seq r;have h0:=h.ml;rw[a3N,EL.out.1,EL.out.2];exact a5t (fun y hy=>by simpa using h.le y hy) (by omega)
   obtain⟨v,hv,hrow⟩:=h.d;have hc:=hv.cell;have hb:=h.bl;obtain⟨a0,cap0,rfl⟩:=b1C hrow;clear h
   go_wp2_with fail
   refine⟨by simp,.inl ⟨_,_,rfl,run_takeDeferred hK,?_⟩⟩;refine⟨_,results_tmp rfl _ _ _,_,rfl,?_,hb.trans (belowK_b (w:=w) (zq _) W D _ _ (by omega) hK rfl rfl)⟩;rw[ED.out];exact ownsRow_putObj (a9c hrow (by omega)) _ hK rfl
  case stop =>
   rintro D c pre' W hD hSp ⟨rfl,pre,x,rfl,h,hx⟩ hK
   have ED:Hid (Rd.a0t r=pre):=by
    obtain⟨rest,hrest⟩:=hSp;show Rd.a0t r=pre;have h0:=h.ml;rw[a3N,EL.out.1,EL.out.2,<- hrest,List.append_assoc];exact b2D (fun y hy=>by simpa using h.le y hy) (by omega) (hx.imp (fun e=>by simpa using e) (fun e=>by omega))
   obtain⟨v,hv,hrow⟩:=h.d;have hc:=hv.cell;have hb:=h.bl;obtain⟨a0,cap0,rfl⟩:=b1C hrow;clear h;refine wpIn_wide.2 ?_
   go_wp2_with fail
   refine⟨by simp,.inl ⟨_,_,rfl,run_takeDeferred hK,?_⟩⟩;refine⟨_,results_tmp rfl _ _ _,_,rfl,?_,hb.trans (belowK_b (w:=w) (zq _) W D _ _ (by omega) hK rfl rfl)⟩;rw[ED.out];exact ownsRow_putObj (a9c hrow (by omega)) _ hK rfl
def a0U(r:Rd.a0Y):List Int:=if Rd.a0L r=0 then Rd.a0t r else []
theorem b1Z{r:Rd.a0Y}(h:Rd.a6s r)(hx:x∈Rd.a0t r):0<=x/\x<728:=by
 have f0:=h.f0;rw[Rd.b3M h] at hx
 split at hx
 ·have:=Rd.a4x h hx;omega
 ·have:=Rd.a4x h (List.mem_of_mem_take hx);omega
theorem c2W(h:l≠[]):l[l.length-1]?=some (l.getLastD 0):=by
 rw[<- List.getLast?_eq_getElem?,List.getLast?_eq_some_getLast h,List.getLastD_eq_getLast?,List.getLast?_eq_some_getLast h];rfl
theorem c3i(r:Rd.a0Y)(h:Rd.a6s r):(Rd.a0t r).length<=99:=by
 have:=h.t1;unfold Rd.a0t
 split
 ·rw[List.length_take];omega
 ·rw[List.length_take];omega
theorem c6T{size:Nat}(h:w.ownsRow B e size v n xs)(k:Below w.heap.size w w'):w'.ownsRow B e size v n xs:=by
 refine⟨h.1,h.2.imp id (fun ⟨g,cap,cur,h1,h2,h3,h4⟩=>⟨g,cap,cur,h1,h2,(k.block g (Array.getElem?_eq_some_iff.1 h3).1).trans h3,h4⟩)⟩
theorem b9R{size:Nat}(h:w.ownsRow B e size v n xs):w.drew.ownsRow B e size v n xs:=⟨h.1,h.2⟩
theorem b7z(r:Rd.a0Y)(hf:Rd.a6s r)(w:World)(ht:Tab w)(h10:10<=w.heap.size):
  Calls Tryz.prog 147 #[a1S r] w fun e w'=>∃ v,e=.returned (.tuple #[v,.int .i64 (Rd.a0L r)])/\w'.ownsRow w.heap.size 3 1 v (a0U r).length ((a0U r).map (Value.int .i64))/\Below w.heap.size w w':=by
 have hX:Below w.heap.size w (w.alloc (a0u r)):=(zr _ _).alloc (zq _) _;have hr:=World.alloc_heap_new w (a0u r);have hs:(w.alloc (a0u r)).heap.size=w.heap.size+1:=by simp
 have FI:=a0b (b2a r hf (w.alloc (a0u r)) (a3c ht hX h10) (by rw[hs];omega));have x0:=a7u hr;have x1:=a3R hr;have x2:=a7t hr;have x3:=a7s hr;have x4:=a7r hr;have x5:=a7q hr;have x6:=a7p hr;have x7:=a7o hr;have x8:=a7n hr;have x9:=a4m hr;have x10:=a6E hr;have x11:=a6D hr;have x12:=a6C hr;have x13:=a6B hr;have HX:=a0b (And.intro hX (And.intro hs hr));have hlen:=c3i r hf;have HF:=a0b hf;have GE:Hid (Rd.a0L r=if 40<r.ti then 11 else if 40<(Rd.a0t r).length then 11 else if Rd.a0t r=[]\/((Rd.a0t r).length:Int)<r.ti then 6 else if Rd.a8m r ((Rd.a0t r).getLastD 0) then 6 else 0):=rfl;have GD:Hid (a0U r=if Rd.a0L r=0 then Rd.a0t r else []):=rfl;have t1:=hf.t1;clear hX hr hs ht hf;unfold a1S at *
 by_cases c1:40<r.ti
 ·have e1:Rd.a0L r=11:=by rw[GE.out,if_pos c1]
  have e2:a0U r=[]:=by rw[GD.out,e1];simp
  rw[e1,e2];clear FI GE GD e1 e2
  go_enter Tryz.func147,Tryz.ntmps147
  go_upto_region 1 with fail
  change Code.wp _ _ _ _ (w.alloc (a0u r));generalize w.alloc (a0u r)=X at *
  go_wp2_with fail
  exact bodyPost_ret (v:=.tuple #[.slice none 0 0,.int .i64 11]) (by simp[results,Tryz.results147,go_sem]) rfl ⟨_,rfl,World.ownsRow_nil _ _ _ _,HX.out.1⟩
 ·rw[if_neg c1] at GE
  go_enter Tryz.func147,Tryz.ntmps147
  go_upto_region 1 with fail
  change Code.wp _ _ _ _ (w.alloc (a0u r));generalize w.alloc (a0u r)=X at *
  go_upto_region 4 with (first
   |(go_at_call 199;refine FI.out.mono ?_;rintro e w1 ⟨v,rfl,own,hb⟩))
  obtain⟨a,cap,rfl⟩:=b1C own;have BW:Hid (Below w.heap.size w w1):=HX.out.1.trans (hb.mono (by rw[HX.out.2.1];omega));have OW:Hid (w1.ownsRow w.heap.size 3 1 (.slice a (Rd.a0t r).length cap) (Rd.a0t r).length ((Rd.a0t r).map (Value.int .i64))):=a9c own (by rw[HX.out.2.1];omega);have MB:Hid (∀ x∈Rd.a0t r,0<=x/\x<728):=fun x hx=>b1Z HF.out hx
  have y0:=a0a hb x0;have y1:=a0a hb x1;have y2:=a0a hb x2;have y3:=a0a hb x3;have y4:=a0a hb x4;have y5:=a0a hb x5;have y6:=a0a hb x6;have y7:=a0a hb x7;have y8:=a0a hb x8;have y9:=a0a hb x9;have y10:=a0a hb x10;have y11:=a0a hb x11;have y12:=a0a hb x12;have y13:=a0a hb x13;clear FI x0 x1 x2 x3 x4 x5 x6 x7 x8 x9 x10 x11 x12 x13 own hb HX;generalize Rd.a0t r=L at *
  by_cases c2:40<L.length
  ·have e1:Hid (Rd.a0L r=11):=by show Rd.a0L r=11;rw[GE.out,if_pos c2]
   have e2:Hid (a0U r=[]):=by show a0U r=[];rw[GD.out,e1.out];simp
   have c2':(40:Int)<(L.length:Int):=by omega
   clear y0 y1 y2 y3 y4 y5 y6 y7 y8 y9 y10 y11 y12 y13 c2
   go_wp2_with fail
   exact bodyPost_ret (v:=.tuple #[.slice none 0 0,.int .i64 11]) (by simp[results,Tryz.results147,go_sem]) rfl ⟨_,by rw[e1.out],by rw[e2.out];exact World.ownsRow_nil _ _ _ _,BW.out⟩
  ·have c2':¬ (40:Int)<(L.length:Int):=by omega
   by_cases c3:L=[]
   ·have e1:Hid (Rd.a0L r=6):=by show Rd.a0L r=6;rw[GE.out,if_neg c2,if_pos (.inl c3)]
    have e2:Hid (a0U r=[]):=by show a0U r=[];rw[GD.out,e1.out];simp
    have c3':((L.length:Int)==0)=true:=by rw[c3];rfl
    clear y0 y1 y2 y3 y4 y5 y6 y7 y8 y9 y10 y11 y13 c3 c2
    go_wp2_with fail
    exact bodyPost_ret (v:=.tuple #[.slice none 0 0,.int .i64 6]) (by simp[results,Tryz.results147,go_sem]) rfl ⟨_,by rw[e1.out],by rw[e2.out];exact World.ownsRow_nil _ _ _ _,BW.out⟩
   ·have h0:0<L.length:=List.length_pos_iff.2 c3;have c3':((L.length:Int)==0)=false:=by simp;omega
    by_cases c4:(L.length:Int)<r.ti
    ·have e1:Hid (Rd.a0L r=6):=by show Rd.a0L r=6;rw[GE.out,if_neg c2,if_pos (.inr c4)]
     have e2:Hid (a0U r=[]):=by show a0U r=[];rw[GD.out,e1.out];simp
     clear y0 y1 y2 y3 y4 y5 y6 y7 y8 y9 y10 y11 y13 c3 c2
     go_wp2_with fail
     exact bodyPost_ret (v:=.tuple #[.slice none 0 0,.int .i64 6]) (by simp[results,Tryz.results147,go_sem]) rfl ⟨_,by rw[e1.out],by rw[e2.out];exact World.ownsRow_nil _ _ _ _,BW.out⟩
    ·obtain⟨Hh,cap',e0⟩:=Joins.ownsRow_form OW.out (by omega);simp only[Value.slice.injEq,true_and] at e0;obtain⟨rfl,rfl⟩:=e0;have a0:=OW.out.cellAt (L.length-1) (by omega);rw[List.getElem?_map,c2W c3,Option.map_some] at a0;have hl:=MB.out (L.getLastD 0) (by rw[List.getLastD_eq_getLast?,List.getLast?_eq_some_getLast c3];exact List.getLast_mem c3);have SO:=a0b (b0u r HF.out (L.getLastD 0) hl.1 (by omega) w1.drew);have GE4:Hid (Rd.a0L r=if Rd.a8m r (L.getLastD 0) then 6 else 0):=by show Rd.a0L r=_;rw[GE.out,if_neg c2,if_neg (by rintro (h|h) <;> contradiction)]
     have LB:Hid (Rd.a8m r (L.getLastD 0)=decide (1048320<(a4K r (L.getLastD 0)).2)):=rfl;have k1:IntKind.i64.wrap ((L.length:Int)-1)=((L.length-1:Nat):Int):=by rw[show (L.length:Int)-1=((L.length-1:Nat):Int) from by omega];exact a0i (by omega) (by omega)
     have k2:((L.length-1:Nat):Int)<(L.length:Int):=by omega
     generalize (a4K r (L.getLastD 0)).2=til at *;generalize (a4K r (L.getLastD 0)).1=fro at *;generalize L.getLastD 0=ld at *;unfold a1S at SO;clear c3 hl c2 MB GE;have hfd:∀ w:World,(Instr.field 60 (.agg #[.int .i64 fro,.int .i64 til]) 1).run Tryz.prog w=.ok (.int .i64 til) w:=fun _=>by kernel_rfl
     by_cases c5:1048320<til
     ·have e1:Hid (Rd.a0L r=6):=by show Rd.a0L r=6;rw[GE4.out,LB.out];simp[c5]
      have e2:Hid (a0U r=[]):=by show a0U r=[];rw[GD.out,e1.out];simp
      go_upto_region 9 with fail
      go_region_with (first
       |(go_at_call 200;refine SO.out.mono ?_;rintro e w2 ⟨rfl,hb2⟩))
      all_goals
       have BF:Hid (Below w.heap.size w w2):=BW.out.drew.trans (hb2.mono BW.out.size);clear hb2 y0 y1 y2 y3 y4 y5 y6 y7 y8 y9 y10 y11 y12 y13 a0
       go_wp2_with fail
       exact bodyPost_ret (v:=.tuple #[.slice none 0 0,.int .i64 6]) (by simp[results,Tryz.results147,go_sem]) rfl ⟨_,by rw[e1.out],by rw[e2.out];exact World.ownsRow_nil _ _ _ _,BF.out⟩
     ·have e1:Hid (Rd.a0L r=0):=by show Rd.a0L r=0;rw[GE4.out,LB.out];simp[c5]
      have e2:Hid (a0U r=L):=by show a0U r=L;rw[GD.out,e1.out];simp
      go_upto_region 9 with fail
      go_region_with (first
       |(go_at_call 200;refine SO.out.mono ?_;rintro e w2 ⟨rfl,hb2⟩))
      all_goals
       have BF:Hid (Below w.heap.size w w2/\w2.ownsRow w.heap.size 3 1 (.slice (some ⟨Hh,0,none⟩) L.length cap) L.length (L.map (Value.int .i64))):=⟨BW.out.drew.trans (hb2.mono BW.out.size),c6T (w:=w1.drew) (b9R OW.out) hb2⟩;clear hb2 y0 y1 y2 y3 y4 y5 y6 y7 y8 y9 y10 y11 y12 y13 a0
       go_wp2_with fail
       exact bodyPost_ret (v:=.tuple #[.slice (some ⟨Hh,0,none⟩) L.length cap,.int .i64 0]) (by simp[results,Tryz.results147,go_sem]) rfl ⟨_,by rw[e1.out],by rw[e2.out];exact BF.out.2,BF.out.1⟩
theorem DSt.ansDays(h:DSt w d s r col)(k:Below w.heap.size w Z)(hQ:w.heap.size<=Q){da:Value}(own:Z.ownsRow (Q+1) 3 1 da l.length (l.map (Value.int .i64)))(n:Int)(a b c e f g i:Value):
  a0l w d col (s,⟨0,0,n,[],l,[],[]⟩) (a0s 0 0 n (.slice none 0 0) da (.slice none 0 0) (.slice none 0 0)) (a2w Z Q a b c e f g i):=by
 have ko:=a2R Z Q a b c e f g i;have dz:=h.dk.later k;have nq:∀ b,Q<=b->col b=none:=fun b hb=>h.dk.none (by omega)
 have st:Step anyS w.heap.size col col Z (a2w Z Q a b c e f g i):=⟨⟨_,ko,fun x hx=>.inr (by have:x=Q:=List.mem_singleton.1 hx;subst this;exact⟨nq _ (zq _),hQ⟩)⟩,fun _ _ h=>h,fun _ _ h=>.inl h⟩
 have rp:a5m Z (Q+1) col (a0s 0 0 n (.slice none 0 0) da (.slice none 0 0) (.slice none 0 0)) ⟨0,0,n,[],l,[],[]⟩ :=
  ⟨_,_,_,_,[],rfl,rfl,a3j.nil _ _ _,⟨own,fun b hb=>nq b (by have:=(own.lt b hb).1;omega)⟩,a2I.nil _ _ _,a2I.nil _ _ _,(fun b hb=>by cases hb),fun b _=>by simp[Value.ownBlock]⟩
 exact⟨r,col,dz.off ko (fun x hx=>by have:x=Q:=List.mem_singleton.1 hx;subst this;exact nq _ (zq _)),h.of,h.wl,h.hl,(Step.below k).trans st,(rp.off ko (fun x hx=>by have:x=Q:=List.mem_singleton.1 hx;omega)).base (by omega)⟩
theorem a9G{r:Rd.a0Y}(hf:Rd.a6s r)(h:Rd.a0L r≠0):Desk.a0g s (.expand r)=(s,Desk.Rep.error (Rd.a0L r)):=by
 have e:=(Rd.a5K hf).1;simp only[Desk.a0g];rw[<- e,if_pos h]
theorem b5n{r:Rd.a0Y}(hf:Rd.a6s r)(h:Rd.a0L r=0):Desk.a0g s (.expand r)=(s,⟨0,0,((a0U r).length:Int),[],a0U r,[],[]⟩):=by
 obtain⟨e1,e2⟩:=Rd.a5K hf;have e3:=(e2 (by rw[<- e1];exact h)).1;have e4:a0U r=Rd.a0E r:=by unfold a0U;rw[if_pos h,e3]
 simp only[Desk.a0g];rw[<- e1,if_neg (by omega),e4];rfl
theorem c0R(w:World)(r:Rd.a0Y):let X:=((w.alloc (.cells #[.int .i64 r.pc,.int .i64 r.ev,.bool (isd r.acc 0),.bool (isd r.acc 1),.bool (isd r.acc 2),.bool (isd r.acc 3),.bool (isd r.acc 4),.bool (isd r.acc 5),.bool (isd r.acc 6),.int .i64 r.fr,.int .i64 r.mn,.int .i64 r.mi,.int .i64 r.ti,.int .i64 r.un] 180)).alloc a0f);Below w.heap.size w X/\X.heap[w.heap.size+1]?=some a0f/\X.heap.size=w.heap.size+2/\X.heap[w.heap.size]?=some (.cells #[.int .i64 r.pc,.int .i64 r.ev,.bool (isd r.acc 0),.bool (isd r.acc 1),.bool (isd r.acc 2),.bool (isd r.acc 3),.bool (isd r.acc 4),.bool (isd r.acc 5),.bool (isd r.acc 6),.int .i64 r.fr,.int .i64 r.mn,.int .i64 r.mi,.int .i64 r.ti,.int .i64 r.un] 180 (0,0)):=by
 obtain⟨h1,h2⟩:=a2q (w:=w) (.cells #[.int .i64 r.pc,.int .i64 r.ev,.bool (isd r.acc 0),.bool (isd r.acc 1),.bool (isd r.acc 2),.bool (isd r.acc 3),.bool (isd r.acc 4),.bool (isd r.acc 5),.bool (isd r.acc 6),.int .i64 r.fr,.int .i64 r.mn,.int .i64 r.mi,.int .i64 r.ti,.int .i64 r.un] 180);exact⟨h1,h2,by simp,(Below.heap_alloc _ _ _ (by simp)).trans (World.alloc_heap_new w _)⟩
theorem b8D(h:DSt w d s rw_ col)(ht:Tab w)(h10:10<=w.heap.size)(r:Rd.a0Y)(hf:Rd.a6s r):
  Calls Tryz.prog 102 #[.agg #[.int .i64 r.pc,.int .i64 r.ev,.bool (isd r.acc 0),.bool (isd r.acc 1),.bool (isd r.acc 2),.bool (isd r.acc 3),.bool (isd r.acc 4),.bool (isd r.acc 5),.bool (isd r.acc 6),.int .i64 r.fr,.int .i64 r.mn,.int .i64 r.mi,.int .i64 r.ti,.int .i64 r.un]] w fun e w'=>∃ v,e=.returned v/\a0l w d col (Desk.a0g s (.expand r)) v w':=by
 obtain⟨hX,hXQ,hsz,hXb⟩:=c0R w r;have DY:=a0b (b7z r hf ((w.alloc (.cells #[.int .i64 r.pc,.int .i64 r.ev,.bool (isd r.acc 0),.bool (isd r.acc 1),.bool (isd r.acc 2),.bool (isd r.acc 3),.bool (isd r.acc 4),.bool (isd r.acc 5),.bool (isd r.acc 6),.int .i64 r.fr,.int .i64 r.mn,.int .i64 r.mi,.int .i64 r.ti,.int .i64 r.un] 180)).alloc a0f) (a3c ht hX h10) (by rw[hsz];omega));have HE:=a0b (a9G (s:=s) hf);have HO:=a0b (b5n (s:=s) hf);have HH:=a0b h;have HX:=a0b (And.intro hX (And.intro hXQ hsz));have x0:=d0h hXb 0 rfl;have x1:=d0h hXb 1 rfl;have x2:=d0h hXb 2 rfl;have x3:=d0h hXb 3 rfl;have x4:=d0h hXb 4 rfl;have x5:=d0h hXb 5 rfl;have x6:=d0h hXb 6 rfl;have x7:=d0h hXb 7 rfl;have x8:=d0h hXb 8 rfl;have x9:=d0h hXb 9 rfl;have x10:=d0h hXb 10 rfl;have x11:=d0h hXb 11 rfl;have x12:=d0h hXb 12 rfl;have x13:=d0h hXb 13 rfl;unfold a1S at DY;clear h hX hXQ hsz hXb hf ht
 go_enter Tryz.func102,Tryz.ntmps102
 go_upto_region 1 with fail
 change Code.wp _ _ _ _ ((w.alloc (.cells #[.int .i64 r.pc,.int .i64 r.ev,.bool (isd r.acc 0),.bool (isd r.acc 1),.bool (isd r.acc 2),.bool (isd r.acc 3),.bool (isd r.acc 4),.bool (isd r.acc 5),.bool (isd r.acc 6),.int .i64 r.fr,.int .i64 r.mn,.int .i64 r.mi,.int .i64 r.ti,.int .i64 r.un] 180)).alloc a0f);generalize ((w.alloc (.cells #[.int .i64 r.pc,.int .i64 r.ev,.bool (isd r.acc 0),.bool (isd r.acc 1),.bool (isd r.acc 2),.bool (isd r.acc 3),.bool (isd r.acc 4),.bool (isd r.acc 5),.bool (isd r.acc 6),.int .i64 r.fr,.int .i64 r.mn,.int .i64 r.mi,.int .i64 r.ti,.int .i64 r.un] 180)).alloc a0f)=X at *
 go_upto_region 2 with (first
  |(go_at_call 147;refine DY.out.mono ?_;rintro e w1 ⟨da,rfl,own,hb⟩))
 obtain⟨a1,cap,rfl⟩:=b1C own;have BX:Hid (Below w.heap.size w w1):=HX.out.1.trans (hb.mono HX.out.1.size);have QX:Hid (Q7 w1 (w.heap.size+1)):=(Q7.of HX.out.2.1).later (hb.block _ (by rw[HX.out.2.2];omega));have OW:Hid (w1.ownsRow (w.heap.size+1+1) 3 1 (.slice a1 (a0U r).length cap) (a0U r).length ((a0U r).map (Value.int .i64))):=by have:=own;rw[HX.out.2.2] at this;exact this
 clear DY x0 x1 x2 x3 x4 x5 x6 x7 x8 x9 x10 x11 x12 x13 own hb HX
 by_cases he:Rd.a0L r=0
 ·have HD:=a0b (HO.out he);have hb1:(Rd.a0L r != 0)=false:=by simpa using he
  have AF:Hid (∀ a b c e f g i,a0l w d col (Desk.a0g s (.expand r)) (a0s 0 0 ((a0U r).length:Int) (.slice none 0 0) (.slice a1 (a0U r).length cap) (.slice none 0 0) (.slice none 0 0)) (a2w w1 (w.heap.size+1) a b c e f g i)):=fun a b c e f g i=>by rw[HD.out];exact HH.out.ansDays BX.out (by omega) OW.out _ a b c e f g i
  clear HE HO HD OW;generalize (a0U r).length=nn at *;generalize Rd.a0L r=er at *;subst he;obtain⟨q0,q1,q2,q3,q4,q5,q6,fq⟩:=QX.out
  go_wp2_with fail
  exact d0O Tryz.results102 ⟨q0,q1,q2,q3,q4,q5,q6,fq⟩ ⟨_,rfl,AF.out _ _ _ _ _ _ _⟩
 ·have HD:=a0b (HE.out he);have hb1:(Rd.a0L r != 0)=true:=by simpa using he
  clear HE HO OW he;generalize Rd.a0L r=er at *
  go_wp2_with fail
  refine (a0D er w1).mono ?_;rintro e w2 ⟨rfl,hb2⟩;have HF:=a0b (HH.out.refuse BX.out QX.out hb2 HD.out);obtain⟨q0,q1,q2,q3,q4,q5,q6,fq⟩:=HF.out.1;simp only[a0s]
  go_wp2_with fail
  exact d0O Tryz.results102 ⟨q0,q1,q2,q3,q4,q5,q6,fq⟩ ⟨_,rfl,HF.out.2⟩
theorem b2m(h:DSt w d s rw_ col)(ht:Tab w)(h10:10<=w.heap.size)(r:Rd.a0Y)(hf:Rd.a6s r):
  Calls Tryz.prog 64 #[.pointer (some ⟨d,0,none⟩),.iface 180 (.agg #[.int .i64 r.pc,.int .i64 r.ev,.bool (isd r.acc 0),.bool (isd r.acc 1),.bool (isd r.acc 2),.bool (isd r.acc 3),.bool (isd r.acc 4),.bool (isd r.acc 5),.bool (isd r.acc 6),.int .i64 r.fr,.int .i64 r.mn,.int .i64 r.mi,.int .i64 r.ti,.int .i64 r.un])] w fun e w'=>∃ v,e=.returned v/\a0l w d col (Desk.a0g s (.expand r)) v w':=by
 have HX:=a0b (h.kit (.cells #[.int .i64 r.pc,.int .i64 r.ev,.bool (isd r.acc 0),.bool (isd r.acc 1),.bool (isd r.acc 2),.bool (isd r.acc 3),.bool (isd r.acc 4),.bool (isd r.acc 5),.bool (isd r.acc 6),.int .i64 r.fr,.int .i64 r.mn,.int .i64 r.mi,.int .i64 r.ti,.int .i64 r.un] 180));have EF:=a0b (b8D HX.out.1 (a3c ht HX.out.2.1 h10) (Nat.le_trans h10 HX.out.2.1.size) r hf);clear h;unfold a0f at EF HX;have noThing:=d0q 180 (by decide);have noBook:=d2o 180 (by decide);have noHold:=d2F 180 (by decide);have noWait:=d3H 180 (by decide);have noSeries:=d0K 180 (by decide);have noConfirm:=d0y 180 (by decide);have noCancel:=d1Q 180 (by decide);have noList:=d8g 180 (by decide);have noWaiting:=d2E 180 (by decide);have noPeak:=e3J 180 (by decide);have noFind:=e7l 180 (by decide);have yesExpand:=e9l Tryz.underlying180
 go_enter Tryz.func64,Tryz.ntmps64
 go_wp2_with fail
 refine EF.out.mono ?_;rintro e w2 ⟨v,rfl,ep⟩;obtain⟨er,at_,nn,a1,a2,a3,a4,n1,n2,n3,n4,c1,c2,c3,c4,rfl,q7,hf⟩:=ep.upA HX.out.2;have HF:=a0b hf;clear ep hf EF noThing noBook noHold noWait noSeries noConfirm noCancel noList noWaiting noPeak noFind yesExpand;obtain⟨q0,q1,q2,q3,q4,q5,q6,fq⟩:=q7;simp only[a0s]
 go_wp2_with fail
 exact d0O Tryz.results64 ⟨q0,q1,q2,q3,q4,q5,q6,fq⟩ ⟨_,rfl,HF.out⟩
theorem c4d:∀ (L:List (Int × Int))(j:Nat)(u:Value),(L.flatMap spV)[j]?=some u->∃ (i:Nat)(h:i<L.length),(j=i*2/\u=.int .i64 L[i].1)\/(j=i*2+1/\u=.int .i64 L[i].2)
 |[],j,u,h=>by simp at h
 |p :: L,0,u,h=>by
  refine⟨0,by simp,.inl ⟨rfl,?_⟩⟩;simp[spV] at h;exact h.symm
 |p :: L,1,u,h=>by
  refine⟨0,by simp,.inr ⟨rfl,?_⟩⟩;simp[spV] at h;exact h.symm
 |p :: L,j+2,u,h=>by
  have h':(L.flatMap spV)[j]?=some u:=by simpa[spV] using h
  obtain⟨i,hi,e⟩:=c4d L j u h';refine⟨i+1,by simp;omega,?_⟩;rcases e with ⟨e1,e2⟩|⟨e1,e2⟩
  ·exact .inl ⟨by omega,by simpa using e2⟩
  ·exact .inr ⟨by omega,by simpa using e2⟩
theorem b0S(L:List (Int × Int)):(L.flatMap spV).length=L.length*2:=by
 induction L with
 |nil=>rfl
 |cons p L ih=>simp[spV,ih];omega
theorem b8A(L:List (Int × Int)):∀ u∈L.flatMap spV,u.oneCell'=true:=by
 intro u hu;obtain⟨p,_,hp⟩:=List.mem_flatMap.1 hu;simp[spV] at hp;rcases hp with rfl|rfl <;> rfl
theorem b4C(w:World)(B cap:Nat)(L:List (Int × Int))(hs:SL w B L)(hL:L.length<=100):
  Calls Tryz.prog 210 #[.slice (some ⟨B,0,none⟩) L.length cap] w fun e w'=>∃ v,e=.returned v/\w'.ownsRow w.heap.size 60 2 v L.length (L.flatMap spV)/\Below w.heap.size w w':=by
 obtain⟨i0,hi0,hz0,hz1,hz2⟩:=info_parts b6Q;have q22:∀ (w:World) (a:Option Addr) (n c n' c':Nat),(binOp .eql 56 (.slice a n c) (.slice none n' c')).run Tryz.prog w=.ok (.bool a.isNone) w:=fun w a n c n' c'=>Lib.run_eql_slice_nil w _ _ a n c n' c' Tryz.underlying56
 have HS:=a0b hs;clear hs
 go_enter Tryz.func210,Tryz.ntmps210
 go_wp2_with (at_builtin;refine wpList_append_own _ rfl _ _ 56 rfl w.heap.size 60 i0 _ 2 16 Tryz.underlying56 hi0 hz0 hz1 hz2 rfl (by decide) _ _ _ rfl (World.ownsRow_made w #[] 0 (zq _) (zN _) rfl) ⟨B,0,none⟩ L.length cap (L.flatMap spV) rfl ?qc1 ?qc2 ?qc3 ?qc4 ?qc5 ?qc6 ?_)
 case qc1=>exact b0S L
 case qc2 =>
  intro j u hj;rw[Addr.add_lit];refine Lib.cell?_alloc_some _ ?_;obtain⟨i,hi,⟨rfl,rfl⟩|⟨rfl,rfl⟩⟩:=c4d L j u hj
  ·have:=(HS.out i hi).1
   simpa using this
  ·have:=(HS.out i hi).2
   simpa using this
 case qc3=>exact b8A L
 case qc4=>unfold maxLen;omega
 case qc5=>omega
 case qc6=>simp
 intro v' w1 hown hgrow hnil;go_wp2;go_ret;refine⟨v',rfl,by simpa using hown,?_⟩;exact ((zr _ w).alloc (zq _) _).grown hgrow (by simp) (by intro k hk;simp[Value.ownBlock] at hk;omega)
end Go.Proofs.YtfigmlfdnickmaaGreatDoor
