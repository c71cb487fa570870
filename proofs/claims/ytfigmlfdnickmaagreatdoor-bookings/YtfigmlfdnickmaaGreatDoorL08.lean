import Derived.Test.YtfigmlfdnickmaaGreatDoorL07
import Derived.LaidEqlPtr
import Derived.Lib.SliceRun
set_option maxRecDepth 100000
set_option maxHeartbeats 8000000
variable{name:ByteArray}{c c':Go.Proofs.YtfigmlfdnickmaaGreatDoor.Col}{id:Int}{at':Int->Nat}{ts:List (ByteArray × Int)}{es es':List Go.Proofs.YtfigmlfdnickmaaGreatDoor.Desk.Ent}{F L M:List Nat}{xs:List Go.Value}{B b cap d i j k n:Nat}{p:Nat->Bool}{col col':Nat->Option Go.Proofs.YtfigmlfdnickmaaGreatDoor.Col}{s:Go.Proofs.YtfigmlfdnickmaaGreatDoor.Desk.St}{v:Go.Value}{w w':Go.World}
namespace Go.Proofs.YtfigmlfdnickmaaGreatDoor
open Go.RowKit
structure Step(S:Col->Prop)(B:Nat)(col col':Nat->Option Col)(w w':World):Prop where
 off:∃ G,Off G w w'/\∀ x∈G,(∃ c,col x=some c/\S c)\/(col x=none/\B<=x)
 a9i:∀ k c,col k=some c->col' k=some c
 new:∀ k c,col' k=some c->col k=some c\/B<=k
theorem Step.refl(S:Col->Prop)(B:Nat)(col:Nat->Option Col)(w:World):Step S B col col w w:=⟨⟨[],Off.refl _ _,by simp⟩,fun _ _ h=>h,fun _ _ h=>.inl h⟩
theorem Step.below{S:Col->Prop}(h:Below w.heap.size w w'):Step S B col col w w':=⟨⟨[],Off.of_below h,by simp⟩,fun _ _ h=>h,fun _ _ h=>.inl h⟩
theorem Step.size{S:Col->Prop}(h:Step S B col col' w w'):w.heap.size<=w'.heap.size:=by obtain⟨G,h1,_⟩:=h.off;exact h1.size
theorem Step.mono{S S':Col->Prop}{B':Nat}(h:Step S B col col' w w')(hs:∀ c,S c->S' c)(hB:B'<=B):Step S' B' col col' w w':=by
 obtain⟨G,h1,h2⟩:=h.off;refine⟨⟨G,h1,fun x hx=>?_⟩,h.a9i,fun k c hk=>(h.new k c hk).imp id (fun e=>by omega)⟩;rcases h2 x hx with ⟨c,a,b⟩|⟨a,b⟩
 ·exact .inl ⟨c,a,hs c b⟩
 ·exact .inr ⟨a,by omega⟩
theorem Step.trans{S:Col->Prop}{c0 c1 c2:Nat->Option Col}{a b c:World}(h:Step S B c0 c1 a b)(k:Step S B c1 c2 b c):Step S B c0 c2 a c:=by
 obtain⟨G,h1,h2⟩:=h.off;obtain⟨K,k1,k2⟩:=k.off;refine⟨⟨G++K,?_,fun x hx=>?_⟩,fun x c hx=>k.a9i x c (h.a9i x c hx),fun x c hx=>?_⟩
 ·exact (h1.mono (fun x hx=>by simp[hx])).trans' k1 (fun x hx=>.inl (by simp[hx]))
 ·rcases List.mem_append.1 hx with hx|hx
  ·exact h2 x hx
  ·rcases k2 x hx with ⟨c,e1,e2⟩|⟨e1,e2⟩
   ·rcases h.new x c e1 with e|e
    ·exact .inl ⟨c,e,e2⟩
    ·cases h0:c0 x with
     |none=>exact .inr ⟨rfl,e⟩
     |some c' =>
      have:=h.a9i x c' h0;rw[e1] at this
      cases this
      exact .inl ⟨c,rfl,e2⟩
   ·cases h0:c0 x with
    |none=>exact .inr ⟨rfl,e2⟩
    |some c'=>rw[h.a9i x c' h0] at e1;cases e1
 ·rcases k.new x c hx with e|e
  ·exact h.new x c e
  ·exact .inr e
theorem Step.blockC{S:Col->Prop}(h:Step S B col col' w w')(hb:b<w.heap.size)(hc:col b=some c)(hs:¬ S c):w'.heap[b]?=w.heap[b]?:=by
 obtain⟨G,h1,h2⟩:=h.off;refine h1.block b hb (fun hx=>?_);rcases h2 b hx with ⟨c',e1,e2⟩|⟨e1,_⟩
 ·rw[hc] at e1;cases e1;exact hs e2
 ·rw[hc] at e1;cases e1
theorem Step.blockN{S:Col->Prop}(h:Step S B col col' w w')(hb:b<w.heap.size)(hc:col b=none)(hB:b<B):w'.heap[b]?=w.heap[b]?:=by
 obtain⟨G,h1,h2⟩:=h.off;refine h1.block b hb (fun hx=>?_);rcases h2 b hx with ⟨c',e1,e2⟩|⟨_,e⟩
 ·rw[hc] at e1;cases e1
 ·omega
theorem Step.cellC{S:Col->Prop}(h:Step S B col col' w w'){o:Nat}(hc:col b=some c)(hs:¬ S c)(h0:w.cell? ⟨b,o,none⟩=some v):w'.cell? ⟨b,o,none⟩=some v :=
 (zo (w:=w) (h.blockC (World.block_lt_of_cell? _ _ h0) hc hs)).trans h0
def Left(S:Col->Prop)(B:Nat)(col:Nat->Option Col)(b:Nat):Prop:=(∃ c,col b=some c/\¬ S c)\/(col b=none/\b<B)
theorem Step.left{S:Col->Prop}(h:Step S B col col' w w'):∃ G,Off G w w'/\∀ b,Left S B col b->b ∉ G:=by
 obtain⟨G,h1,h2⟩:=h.off;refine⟨G,h1,fun b hl hx=>?_⟩;rcases h2 b hx with ⟨c',e1,e2⟩|⟨e1,e2⟩ <;> rcases hl with ⟨c,e3,e4⟩|⟨e3,e4⟩
 ·rw[e1] at e3;cases e3;exact e4 e2
 ·rw[e1] at e3;cases e3
 ·rw[e1] at e3;cases e3
 ·omega
theorem Step.enk{S:Col->Prop}{g:EG}(h:Step S B col col' w w')(hg:ENK w g)(h1:Left S B col g.eb)(h2:Left S B col g.B):ENK w' g:=by
 obtain⟨G,a1,a2⟩:=h.left;exact hg.off a1 (a2 _ h1) (a2 _ h2)
noncomputable def a2Z(col:Nat->Option Col)(F:List Nat)(c:Col)(k:Nat):Option Col :=
 match col k with
 |some c'=>some c'
 |none=>@ite _ (k∈F) (Classical.propDecidable _) (some c) none
theorem a9b(h:col k=some c'):a2Z col F c k=some c':=by unfold a2Z;rw[h]
theorem a5z(h:k∈F)(hk:∀ c',col k=some c'->c'=c):a2Z col F c k=some c:=by
 unfold a2Z
 cases e:col k with
 |none=>simp only;rw[if_pos h]
 |some c'=>simp only;rw[hk c' e]
theorem a1I(h:a2Z col F c k=some c'):col k=some c'\/(col k=none/\k∈F/\c=c'):=by
 unfold a2Z at h
 cases e:col k with
 |none =>
  rw[e] at h;simp only at h
  by_cases hf:k∈F
  ·rw[if_pos hf] at h;cases h;exact .inr ⟨rfl,hf,rfl⟩
  ·rw[if_neg hf] at h;cases h
 |some c2=>rw[e] at h;exact .inl h
theorem a3l{S:Col->Prop}{G:List Nat}(k:Off G w w')(hG:∀ x∈G,(∃ c,col x=some c/\S c)\/(col x=none/\B<=x))(hF:∀ x∈F,col x=none->B<=x):Step S B col (a2Z col F c) w w' :=
 ⟨⟨G,k,hG⟩,fun _ _ h=>a9b h,fun k c hk=>by rcases a1I hk with e|⟨e1,e2,e3⟩;exact .inl e;exact .inr (hF k e2 e1)⟩
def TG.with(t:TG)(A:List Bool->Int)(T:Avl.S):TG:={ t with A:=A,T:=T }
def Raw.setT(r:Raw)(i:Nat)(t:TG):Raw:={ r with tg:=r.tg.set i t }
theorem c2c{tg:List TG}(hi:i<tg.length)(A:List Bool->Int)(T:Avl.S)(name:ByteArray):b2r (tg.set i (tg[i].with A T)) name=b2r tg name:=by
 unfold b2r
 have e:(tg.set i (tg[i].with A T)).map (fun t=>(t.name,t.tb))=tg.map fun t=>(t.name,t.tb):=by
  rw[List.map_set];have:((tg[i].with A T).name,(tg[i].with A T).tb)=(tg.map fun t=>(t.name,t.tb))[i]'(by simpa using hi):=by simp[TG.with]
  rw[this,List.set_getElem_self]
 rw[e]
theorem DK.base{S:Col->Prop}{r:Raw}(h:DK w d r col)(st:Step S B col col' w w')(hd:¬ S .desk):
  w'.cell? ⟨d,0,none⟩=some (.int .i64 r.now)/\w'.cell? ⟨d,1,none⟩=some (.int .i64 r.given)/\(∀ o,w'.frozen? ⟨d,o,none⟩=false)/\col' d=some .desk/\∀ o,w'.cell? ⟨d,o,none⟩=w.cell? ⟨d,o,none⟩:=by
 have hb:=st.blockC (h.lt d _ h.dc) h.dc hd;exact⟨st.cellC h.dc hd h.c0,st.cellC h.dc hd h.c1,fun o=>(World.frozen?_of_block (w:=w) hb).trans (h.fz o),st.a9i d _ h.dc,fun o=>zo hb⟩
theorem DK.mtC{S:Col->Prop}{r:Raw}(h:DK w d r col)(st:Step S B col col' w w')(hc:w'.cell? ⟨d,2,none⟩=w.cell? ⟨d,2,none⟩)(hm:¬ S .mt):
  ∃ m f,w'.cell? ⟨d,2,none⟩=some (.map (some m))/\col' m=some .mt/\a4N Tryz.prog 9 w' m r.tg.length f r.tg.length/\∀ name,f (b8f name)=b2r r.tg name:=by
 obtain⟨m,f,a1,a2,a3,a4⟩:=h.mt;exact⟨m,f,hc.trans a1,st.a9i m _ a2,a3.block (st.blockC (h.lt m _ a2) a2 hm),a4⟩
theorem DK.meC{S:Col->Prop}{r:Raw}(h:DK w d r col)(st:Step S B col col' w w')(hc:w'.cell? ⟨d,3,none⟩=w.cell? ⟨d,3,none⟩)(hm:¬ S .me):
  ∃ m f,w'.cell? ⟨d,3,none⟩=some (.map (some m))/\col' m=some .me/\a4N Tryz.prog 3 w' m r.eg.length f r.eg.length/\∀ id,f (b1K id)=a6U r.eg id:=by
 obtain⟨m,f,a1,a2,a3,a4⟩:=h.me;exact⟨m,f,hc.trans a1,st.a9i m _ a2,a3.block (st.blockC (h.lt m _ a2) a2 hm),a4⟩
theorem DK.waC{S:Col->Prop}{r:Raw}(h:DK w d r col)(st:Step S B col col' w w')(hc:w'.cell? ⟨d,4,none⟩=w.cell? ⟨d,4,none⟩)(hm:¬ S .wa):
  ∃ v,w'.cell? ⟨d,4,none⟩=some v/\w'.ownsRow 0 197 1 v r.wl.length (r.wl.map a5x)/\∀ b,v.ownBlock=some b->col' b=some .wa:=by
 obtain⟨v,a1,a2,a3⟩:=h.wa;obtain⟨G,k,hG⟩:=st.left;exact⟨v,hc.trans a1,a1i a2 k (fun b hb=>hG b (.inl ⟨_,a3 b hb,hm⟩)),fun b hb=>st.a9i b _ (a3 b hb)⟩
theorem DK.heC{S:Col->Prop}{r:Raw}(h:DK w d r col)(st:Step S B col col' w w')(hc:w'.cell? ⟨d,5,none⟩=w.cell? ⟨d,5,none⟩)(hf:w'.frozen? ⟨d,5,none⟩=false)(hm:¬ S .he):
  ∃ v,HP w' d 5 v r.hl/\∀ b,v.ownBlock=some b->col' b=some .he:=by
 obtain⟨v,a1,a2⟩:=h.he;obtain⟨G,k,hG⟩:=st.left;exact⟨v,⟨hc.trans a1.c,a1i a1.own k (fun b hb=>hG b (.inl ⟨_,a2 b hb,hm⟩)),a1.ne,hf⟩,fun b hb=>st.a9i b _ (a2 b hb)⟩
theorem DK.thS{S:Col->Prop}{r:Raw}(h:DK w d r col)(st:Step S B col col' w w')(i:Nat)(hi:i<r.tg.length)(hm:¬ S (.a0k i)):
  ∃ ul us Fl Fs,TH w' r.tg[i].tb r.tg[i].name r.tg[i].a0c r.tg[i].A r.tg[i].T ul us Fl Fs/\∀ k∈r.tg[i].tb :: (Fl++Fs),col' k=some (.a0k i):=by
 obtain⟨ul,us,Fl,Fs,a1,a2⟩:=h.th i hi;obtain⟨G,k,hG⟩:=st.left;exact⟨ul,us,Fl,Fs,a1.off k (fun b hb=>hG b (.inl ⟨_,a2 b hb,hm⟩)),fun b hb=>st.a9i b _ (a2 b hb)⟩
theorem DK.enS{S:Col->Prop}{r:Raw}(h:DK w d r col)(st:Step S B col col' w w')(he:¬ S .ent)(hs:¬ S .span):
  ∀ g∈r.eg,ENK w' g/\col' g.eb=some .ent/\col' g.B=some .span:=by
 intro g hg;obtain⟨a1,a2,a3⟩:=h.en g hg;exact⟨st.enk a1 (.inl ⟨_,a2,he⟩) (.inl ⟨_,a3,hs⟩),st.a9i _ _ a2,st.a9i _ _ a3⟩
theorem DK.a0k{r:Raw}(h:DK w d r col)(i:Nat)(hi:i<r.tg.length)(hF:∀ k∈r.tg[i].tb :: F,col k=some (.a0k i)){A:List Bool->Int}{T:Avl.S}(n:Now w w' r.tg[i].tb r.tg[i].name r.tg[i].a0c A T F):
  ∃ col',DK w' d (r.setT i (r.tg[i].with A T)) col'/\Step (·=.a0k i) w.heap.size col col' w w':=by
 obtain⟨ul,us,Fl,Fs,t1,t2⟩:=n.th
 have hold:∀ k,w.heap.size<=k->col k=none:=fun k hk=>by
  cases e:col k with
  |none=>rfl
  |some c=>have:=h.lt k c e;omega
 have hFF:∀ k∈Fl++Fs,col k=some (.a0k i)\/(col k=none/\w.heap.size<=k):=fun k hk=>by
  rcases t2 k hk with e|e
  ·exact .inl (hF k (by simp[e]))
  ·exact .inr ⟨hold k e,e⟩
 have st:Step (·=.a0k i) w.heap.size col (a2Z col (Fl++Fs) (.a0k i)) w w':=a3l n.off (fun x hx=>.inl ⟨_,hF x hx,rfl⟩) (fun x hx e=>by
  rcases hFF x hx with e2|e2
  ·rw[e] at e2;cases e2
  ·exact e2.2)
 refine⟨_,?_,st⟩;obtain⟨b1,b2,b3,b4,b5⟩:=h.base st (by simp);refine⟨b1,b2,?_,h.meC st (b5 3) (by simp),h.waC st (b5 4) (by simp),h.heC st (b5 5) (b3 5) (by simp),?_,h.enS st (by simp) (by simp),h.nd,h.ni,b3,b4,?_⟩
 ·obtain⟨m,f,a1,a2,a3,a4⟩:=h.mtC st (b5 2) (by simp);have e:(r.setT i (r.tg[i].with A T)).tg.length=r.tg.length:=by simp[Raw.setT]
  exact⟨m,f,a1,a2,by rw[e];exact a3,fun name=>by rw[a4];exact (c2c hi A T name).symm⟩
 ·intro j hj;have hj':j<r.tg.length:=by simpa[Raw.setT] using hj
  by_cases e:j=i
  ·subst e;have e2:(r.setT j (r.tg[j].with A T)).tg[j]=r.tg[j].with A T:=by simp[Raw.setT]
   rw[e2];refine⟨ul,us,Fl,Fs,t1,fun k hk=>?_⟩;rcases List.mem_cons.1 hk with rfl|hk
   ·exact a9b (hF r.tg[j].tb List.mem_cons_self)
   ·refine a5z hk (fun c' hc=>?_);rcases hFF k hk with e|e
    ·rw[hc] at e;cases e;rfl
    ·rw[hc] at e;cases e.1
  ·have e2:(r.setT i (r.tg[i].with A T)).tg[j]=r.tg[j]:=by simp[Raw.setT,Ne.symm e]
   rw[e2];exact h.thS st j hj' (by simpa using e)
 ·intro k c hk;rcases a1I hk with h1|⟨h1,h2,h3⟩
  ·exact zL (h.lt k c h1) st.size
  ·exact t1.lt k (by simp only[List.mem_cons];exact .inr h2)
structure Fit(t:TG)(e:Desk.Ent):Prop where
 ok:c1P e.a0e
 bd:∀ p,0<=t.A p/\t.A p<=400000
 u1:1<=e.a0c
 u2:e.a0c<=9
 ll:e.a0e.length<=100
theorem DK.pair{r:Raw}(h:DK w d r col)(i:Nat)(hi:i<r.tg.length){g:EG}(hg:ENK w g)(ht:g.tb=r.tg[i].tb)(h1:col g.eb≠some (.a0k i))(h2:col g.B≠some (.a0k i))(hf:Fit r.tg[i] g.e):
  ∃ F,c6Q w r.tg[i].tb g.eb g.B g.cap r.tg[i].name r.tg[i].a0c r.tg[i].A r.tg[i].T F g.e.id g.e.a0c g.e.a0e/\∀ k∈r.tg[i].tb :: F,col k=some (.a0k i):=by
 obtain⟨ul,us,Fl,Fs,a1,a2⟩:=h.th i hi;refine⟨Fl++Fs,⟨⟨ul,us,Fl,Fs,a1,fun k hk=>hk⟩,by rw[<- ht];exact hg.en,fun hx=>h1 (a2 _ hx),fun hx=>h2 (a2 _ hx),hf.ok,hf.bd,hf.u1,hf.u2,hf.ll⟩,a2⟩
theorem b7e{r:Raw}(h:DK w d r col)(i:Nat)(hi:i<r.tg.length){g:EG}(hg:ENK w g)(ht:g.tb=r.tg[i].tb)(h1:col g.eb≠some (.a0k i))(h2:col g.B≠some (.a0k i))(hf:Fit r.tg[i] g.e)(hno:a2V (a1z r.tg[i].A g.e.a0e g.e.a0c) r.tg[i].a0c g.e.a0e=false):
  Calls Tryz.prog 104 #[.pointer (some ⟨g.tb,0,none⟩),.pointer (some ⟨g.eb,0,none⟩)] w fun e w'=>e=.returned (.bool false)/\∃ col',DK w' d r col'/\Step (·=.a0k i) w.heap.size col col' w w':=by
 obtain⟨F,p,hF⟩:=h.pair i hi hg ht h1 h2 hf;rw[ht];refine (c4y w _ _ _ _ _ _ _ _ F _ _ _ p hno).mono ?_;rintro e w' ⟨rfl,n⟩;obtain⟨col',k1,k2⟩:=h.a0k i hi hF n;refine⟨rfl,col',?_,k2⟩
 have e:r.setT i (r.tg[i].with r.tg[i].A r.tg[i].T)=r:=by
  have e1:r.tg[i].with r.tg[i].A r.tg[i].T=r.tg[i]:=rfl;unfold Raw.setT;rw[e1,List.set_getElem_self]
 rw[e] at k1;exact k1
theorem b3F{r:Raw}(h:DK w d r col)(i:Nat)(hi:i<r.tg.length){g:EG}(hg:ENK w g)(ht:g.tb=r.tg[i].tb)(h1:col g.eb≠some (.a0k i))(h2:col g.B≠some (.a0k i))(hf:Fit r.tg[i] g.e)(hr:c3L r.tg[i].T g.e.id g.e.a0e)(hyes:a2V (a1z r.tg[i].A g.e.a0e g.e.a0c) r.tg[i].a0c g.e.a0e=true):
  Calls Tryz.prog 104 #[.pointer (some ⟨g.tb,0,none⟩),.pointer (some ⟨g.eb,0,none⟩)] w fun e w'=>e=.returned (.bool true)/\∃ col',DK w' d (r.setT i (r.tg[i].with (a1z r.tg[i].A g.e.a0e g.e.a0c) (a7e g.e.id g.eb r.tg[i].T g.e.a0e))) col'/\Step (·=.a0k i) w.heap.size col col' w w':=by
 obtain⟨F,p,hF⟩:=h.pair i hi hg ht h1 h2 hf;rw[ht];refine (c2f w _ _ _ _ _ _ _ _ F _ _ _ p hr hyes).mono ?_;rintro e w' ⟨rfl,n⟩;exact⟨rfl,h.a0k i hi hF n⟩
theorem b3G{r:Raw}(h:DK w d r col)(i:Nat)(hi:i<r.tg.length){g:EG}(hg:ENK w g)(ht:g.tb=r.tg[i].tb)(h1:col g.eb≠some (.a0k i))(h2:col g.B≠some (.a0k i))(hf:Fit r.tg[i] g.e)(ho:Avl.Ord (Avl.a0w r.tg[i].T))(hz:Avl.size r.tg[i].T<=9000)(hA:∀ p,0<=a1z r.tg[i].A g.e.a0e (-g.e.a0c) p):
  Calls Tryz.prog 205 #[.pointer (some ⟨g.tb,0,none⟩),.pointer (some ⟨g.eb,0,none⟩)] w fun e w'=>e=.returned (.tuple #[])/\∃ col',DK w' d (r.setT i (r.tg[i].with (a1z r.tg[i].A g.e.a0e (-g.e.a0c)) (a4w g.e.id r.tg[i].T g.e.a0e))) col'/\Step (·=.a0k i) w.heap.size col col' w w':=by
 obtain⟨F,p,hF⟩:=h.pair i hi hg ht h1 h2 hf;rw[ht];refine (b4K w _ _ _ _ _ _ _ _ F _ _ _ p ho hz hA).mono ?_;rintro e w' ⟨rfl,n⟩;exact⟨rfl,h.a0k i hi hF n⟩
theorem DK.heap{r:Raw}(h:DK w d r col)(hv:∀ b,v.ownBlock=some b->col b=some .he){l':List Hp.Hi}(p:a2i w d 5 v l' w'):
  ∃ col',DK w' d { r with hl:=l' } col'/\Step (fun c=>c=.he\/c=.desk) w.heap.size col col' w w':=by
 obtain⟨v',p1,p2,p3,p4,p5⟩:=p
 have st:Step (fun c=>c=.he\/c=.desk) w.heap.size col (a2Z col v'.ownBlock.toList .he) w w':=by
  refine a3l p3 (fun x hx=>?_) (fun x hx e=>?_)
  ·rcases List.mem_cons.1 hx with rfl|hx
   ·exact .inl ⟨_,h.dc,.inr rfl⟩
   ·exact .inl ⟨_,hv x (Option.mem_toList.1 hx),.inl rfl⟩
  ·rcases p2 x (Option.mem_toList.1 hx) with e2|e2
   ·rw[hv x e2] at e;cases e
   ·exact e2
 refine⟨_,?_,st⟩;refine⟨(p4 0 (by omega)).trans h.c0,(p4 1 (by omega)).trans h.c1,h.mtC st (p4 2 (by omega)) (by simp),h.meC st (p4 3 (by omega)) (by simp),h.waC st (p4 4 (by omega)) (by simp),⟨v',p1,fun b hb=>?_⟩,fun i hi=>h.thS st i hi (by simp),h.enS st (by simp) (by simp),h.nd,h.ni,fun o=>(p5 o).trans (h.fz o),st.a9i d _ h.dc,fun k c hk=>?_⟩
 ·refine a5z (Option.mem_toList.2 hb) (fun c' hc=>?_);rcases p2 b hb with e|e
  ·rw[hv b e] at hc;cases hc;rfl
  ·have:=h.lt b _ hc;omega
 ·rcases a1I hk with h1|⟨h1,h2,h3⟩
  ·exact zL (h.lt k c h1) st.size
  ·have:=p1.own.lt k (Option.mem_toList.1 h2);exact this.2
theorem DK.setGiven{r:Raw}(h:DK w d r col)(n:Int):DK (w.setCell ⟨d,1,none⟩ (.int .i64 n)) d { r with given:=n } col/\Step (·=.desk) w.heap.size col col w (w.setCell ⟨d,1,none⟩ (.int .i64 n)):=by
 have st:Step (·=.desk) w.heap.size col col w (w.setCell ⟨d,1,none⟩ (.int .i64 n)):=⟨⟨[d],Off.set0 ..,fun x hx=>.inl ⟨_,by simp at hx;subst hx;exact h.dc,rfl⟩⟩,fun _ _ h=>h,fun _ _ h=>.inl h⟩;have ho:∀ o,o≠1->(w.setCell ⟨d,1,none⟩ (.int .i64 n)).cell? ⟨d,o,none⟩=w.cell? ⟨d,o,none⟩:=fun o ho=>zS _ _ _ _ (by have:=ho;simp)
 exact⟨⟨(ho 0 (by omega)).trans h.c0,World.cell?_setCell_same _ _ _ h.c1,h.mtC st (ho 2 (by omega)) (by simp),h.meC st (ho 3 (by omega)) (by simp),h.waC st (ho 4 (by omega)) (by simp),h.heC st (ho 5 (by omega)) ((zF ..).trans (h.fz 5)) (by simp),fun i hi=>h.thS st i hi (by simp),h.enS st (by simp) (by simp),h.nd,h.ni,fun o=>(zF ..).trans (h.fz o),h.dc,fun k c hk=>zL (h.lt k c hk) st.size⟩,st⟩
theorem DK.setWait{w1:World}{r:Raw}(h:DK w d r col){v':Value}(hv:∀ b,v.ownBlock=some b->col b=some .wa){wl':List Nat}(k:Off v.ownBlock.toList w w1)(ho:w1.ownsRow 0 197 1 v' wl'.length (wl'.map a5x))(hat:∀ b,v'.ownBlock=some b->v.ownBlock=some b\/w.heap.size<=b):
  ∃ col',DK (w1.setCell ⟨d,4,none⟩ v') d { r with wl:=wl' } col'/\Step (fun c=>c=.wa\/c=.desk) w.heap.size col col' w (w1.setCell ⟨d,4,none⟩ v'):=by
 have hdv:d ∉ v.ownBlock.toList:=fun e=>by have:=hv d (Option.mem_toList.1 e);rw[h.dc] at this;cases this
 have hdl:=h.lt d _ h.dc;have hd1:w1.heap[d]?=w.heap[d]?:=k.block d hdl hdv;have k2:Off (d :: v.ownBlock.toList) w (w1.setCell ⟨d,4,none⟩ v'):=(k.mono (by simp +contextual)).setCell (.inl (by simp)) _ _
 have st:Step (fun c=>c=.wa\/c=.desk) w.heap.size col (a2Z col v'.ownBlock.toList .wa) w (w1.setCell ⟨d,4,none⟩ v'):=by
  refine a3l k2 (fun x hx=>?_) (fun x hx e=>?_)
  ·rcases List.mem_cons.1 hx with rfl|hx
   ·exact .inl ⟨_,h.dc,.inr rfl⟩
   ·exact .inl ⟨_,hv x (Option.mem_toList.1 hx),.inl rfl⟩
  ·rcases hat x (Option.mem_toList.1 hx) with e2|e2
   ·rw[hv x e2] at e;cases e
   ·exact e2
 have hoo:∀ o,o≠4->(w1.setCell ⟨d,4,none⟩ v').cell? ⟨d,o,none⟩=w.cell? ⟨d,o,none⟩:=fun o ho=>(zS _ _ _ _ (by have:=ho;simp)).trans (zo hd1)
 have hff:∀ o,(w1.setCell ⟨d,4,none⟩ v').frozen? ⟨d,o,none⟩=w.frozen? ⟨d,o,none⟩:=fun o=>(zF ..).trans (World.frozen?_of_block hd1)
 obtain⟨v0,c4,_⟩:=h.wa
 have hvd:∀ b,v'.ownBlock=some b->b≠d:=fun b hb e=>by
  subst e;rcases hat b hb with e|e
  ·exact hdv (Option.mem_toList.2 e)
  ·omega
 refine⟨_,⟨(hoo 0 (by omega)).trans h.c0,(hoo 1 (by omega)).trans h.c1,h.mtC st (hoo 2 (by omega)) (by simp),h.meC st (hoo 3 (by omega)) (by simp),⟨v',World.cell?_setCell_same _ _ _ ((zo (w:=w) hd1).trans c4),a1i ho (Off.set0 d _ 4 _) (fun b hb=>by simpa using hvd b hb),fun b hb=>?_⟩,h.heC st (hoo 5 (by omega)) ((hff 5).trans (h.fz 5)) (by simp),fun i hi=>h.thS st i hi (by simp),h.enS st (by simp) (by simp),h.nd,h.ni,fun o=>(hff o).trans (h.fz o),st.a9i d _ h.dc,fun x c hk=>?_⟩,st⟩
 ·refine a5z (Option.mem_toList.2 hb) (fun c' hc=>?_);rcases hat b hb with e|e
  ·rw[hv b e] at hc;cases hc;rfl
  ·have:=h.lt b _ hc;omega
 ·rcases a1I hk with h1|⟨h1,h2,h3⟩
  ·exact zL (h.lt x c h1) st.size
  ·have:=ho.lt x (Option.mem_toList.1 h2)
   simpa using this.2
def a1R(id kind a0Z:Int)(eg:List EG):List EG:=eg.map fun g=>if g.e.id=id then { g with e:={ g.e with kind:=kind,a0Z:=a0Z } } else g
theorem c2o(id kind a0Z:Int)(eg:List EG):(a1R id kind a0Z eg).map (·.eb)=eg.map (·.eb):=by
 unfold a1R;rw[List.map_map];apply List.map_congr_left;intro g _;simp only[Function.comp];split <;> rfl
theorem c2n(id kind a0Z:Int)(eg:List EG):(a1R id kind a0Z eg).map (·.e.id)=eg.map (·.e.id):=by
 unfold a1R;rw[List.map_map];apply List.map_congr_left;intro g _;simp only[Function.comp];split <;> rfl
theorem b5Z(id kind a0Z:Int)(eg:List EG)(x:Int):a6U (a1R id kind a0Z eg) x=a6U eg x:=by
 have e:(a1R id kind a0Z eg).map (fun g=>(g.e.id,g.eb))=eg.map fun g=>(g.e.id,g.eb):=by
  unfold a1R;rw[List.map_map];apply List.map_congr_left;intro g _;simp only[Function.comp];split <;> rfl
 unfold a6U;rw[e]
theorem b9y(id kind a0Z:Int)(eg:List EG):(a1R id kind a0Z eg).length=eg.length:=by unfold a1R;simp
theorem a0W{α β:Type}(f:α->β):∀ {l:List α},(l.map f).Nodup->∀ {x y:α},x∈l->y∈l->f x=f y->x=y
 |[],_,_,_,hx,_,_=>by simp at hx
 |a :: l,h,x,y,hx,hy,e=>by
  rw[List.map_cons,List.nodup_cons] at h;rcases List.mem_cons.1 hx with e1|h1 <;> rcases List.mem_cons.1 hy with e2|h2
  ·rw[e1,e2]
  ·exact absurd (List.mem_map.2 ⟨y,h2,by rw[<- e,e1]⟩) h.1
  ·exact absurd (List.mem_map.2 ⟨x,h1,by rw[e,e2]⟩) h.1
  ·exact a0W f h.2 h1 h2 e
theorem DK.setEnt{r:Raw}(h:DK w d r col){g:EG}(hg:g∈r.eg)(kind a0Z:Int):
  DK ((w.setCell ⟨g.eb,1,none⟩ (.int .i64 kind)).setCell ⟨g.eb,5,none⟩ (.int .i64 a0Z)) d { r with eg:=a1R g.e.id kind a0Z r.eg } col/\Step (·=.ent) w.heap.size col col w ((w.setCell ⟨g.eb,1,none⟩ (.int .i64 kind)).setCell ⟨g.eb,5,none⟩ (.int .i64 a0Z)):=by
 obtain⟨g1,g2,g3⟩:=h.en g hg;have k:Off [g.eb] w ((w.setCell ⟨g.eb,1,none⟩ (.int .i64 kind)).setCell ⟨g.eb,5,none⟩ (.int .i64 a0Z)):=((Off.refl [g.eb] w).setCell (.inl (by simp)) _ _).setCell (.inl (by simp)) _ _;have st:Step (·=.ent) w.heap.size col col w ((w.setCell ⟨g.eb,1,none⟩ (.int .i64 kind)).setCell ⟨g.eb,5,none⟩ (.int .i64 a0Z)):=⟨⟨_,k,fun x hx=>.inl ⟨_,by simp at hx;subst hx;exact g2,rfl⟩⟩,fun _ _ h=>h,fun _ _ h=>.inl h⟩;obtain⟨b1,b2,b3,b4,b5⟩:=h.base st (by simp);refine⟨⟨b1,b2,h.mtC st (b5 2) (by simp),?_,h.waC st (b5 4) (by simp),h.heC st (b5 5) (b3 5) (by simp),fun i hi=>h.thS st i hi (by simp),?_,by rw[c2o];exact h.nd,by rw[c2n];exact h.ni,b3,b4,fun x c hx=>zL (h.lt x c hx) st.size⟩,st⟩
 ·obtain⟨m,f,a1,a2,a3,a4⟩:=h.meC st (b5 3) (by simp);exact⟨m,f,a1,a2,by rw[b9y];exact a3,fun id=>by rw[a4,b5Z]⟩
 ·intro x hx;obtain⟨y,hy,rfl⟩:=List.mem_map.1 hx;obtain⟨y1,y2,y3⟩:=h.en y hy
  by_cases e:y.e.id=g.e.id
  ·have:y=g:=a0W _ h.ni hy hg e;subst this;rw[if_pos rfl];have hB:y.B≠y.eb:=fun e=>by rw[e,y2] at y3;cases y3
   refine⟨⟨⟨?_,?_,?_,?_,y1.en.sl.off k (by simpa using hB),Nat.lt_of_lt_of_le y1.en.lt k.size⟩,?_,?_,fun o=>?_,?_⟩,y2,y3⟩
   ·exact (zS _ _ _ _ (by simp)).trans ((zS _ _ _ _ (by simp)).trans y1.en.c0)
   ·exact (zS _ _ _ _ (by simp)).trans ((zS _ _ _ _ (by simp)).trans y1.en.c1)
   ·exact (zS _ _ _ _ (by simp)).trans ((zS _ _ _ _ (by simp)).trans y1.en.c2)
   ·exact (zS _ _ _ _ (by simp)).trans ((zS _ _ _ _ (by simp)).trans y1.en.c3)
   ·exact (zS _ _ _ _ (by simp)).trans (zm _ _ _ y1.k)
   ·exact zm _ _ _ ((zS _ _ _ _ (by simp)).trans y1.u)
   ·exact (zF ..).trans ((zF ..).trans (y1.fz o))
   ·obtain⟨cs,e⟩:=y1.bl;exact⟨_,heap_setCell_same _ _ _ _ _ _ (heap_setCell_same _ _ _ _ _ _ e)⟩
  ·rw[if_neg e];have hne:y.eb≠g.eb:=fun e2=>e (by rw[a0W _ h.nd hy hg e2])
   have hB:y.B≠g.eb:=fun e=>by rw[e,g2] at y3;cases y3
   exact⟨y1.off k (by simpa using hne) (by simpa using hB),y2,y3⟩
def a1F(id:Int)(eg:List EG):List EG:=eg.filter fun g=>g.e.id != id
theorem a1V{eg:List EG}:a6U eg id=((eg.find? fun g=>decide (g.e.id=id)).map (·.eb)):=by
 unfold a6U;rw[List.find?_map]
 cases h:eg.find? ((fun p=>decide (p.1=id)) ∘ fun g=>(g.e.id,g.eb)) with
 |none=>have h':eg.find? (fun g=>decide (g.e.id=id))=none:=h;rw[h'];rfl
 |some g=>have h':eg.find? (fun g=>decide (g.e.id=id))=some g:=h;rw[h'];rfl
theorem b3E{eg:List EG}(hn:(eg.map (·.e.id)).Nodup){g:EG}(hg:g∈eg):a6U eg g.e.id=some g.eb:=by
 rw[a1V]
 cases h:eg.find? fun x=>decide (x.e.id=g.e.id) with
 |none =>
  have:=List.find?_eq_none.1 h g hg;simp at this
 |some x =>
  have h1:=List.mem_of_find?_eq_some h;have h2:=List.find?_some h;have:x=g:=a0W _ hn h1 hg (by simpa using h2);rw[this];rfl
theorem a9D{eg:List EG}(h:∀ g∈eg,g.e.id≠id):a6U eg id=none:=by
 rw[a1V];have:eg.find? (fun g=>decide (g.e.id=id))=none:=List.find?_eq_none.2 (fun g hg=>by simpa using h g hg);rw[this];rfl
theorem b2b{eg:List EG}(h:a6U eg id=some b):∃ g∈eg,g.e.id=id/\g.eb=b:=by
 rw[a1V] at h
 cases e:eg.find? fun x=>decide (x.e.id=id) with
 |none=>rw[e] at h;cases h
 |some x =>
  rw[e] at h;refine⟨x,List.mem_of_find?_eq_some e,by simpa using List.find?_some e,by simpa using h⟩
theorem b7d{eg:List EG}(h:a6U eg id=none):∀ g∈eg,g.e.id≠id:=by
 rw[a1V] at h;intro g hg e
 cases e2:eg.find? fun x=>decide (x.e.id=id) with
 |none =>
  have:=List.find?_eq_none.1 e2 g hg;simp[e] at this
 |some x=>rw[e2] at h;cases h
theorem b6N{eg:List EG}(hn:(eg.map (·.e.id)).Nodup)(id x:Int):a6U (a1F id eg) x=if x=id then none else a6U eg x:=by
 by_cases e:x=id
 ·subst e;rw[if_pos rfl];exact a9D (fun g hg=>by simpa using (List.mem_filter.1 hg).2)
 ·rw[if_neg e]
  cases h:a6U eg x with
  |none=>exact a9D (fun g hg=>b7d h g ((List.mem_filter.1 hg).1))
  |some b =>
   obtain⟨g,hg,e1,e2⟩:=b2b h;have hn':((a1F id eg).map (·.e.id)).Nodup:=List.Sublist.nodup (List.filter_sublist.map _) hn;have hk:g∈a1F id eg:=List.mem_filter.2 ⟨hg,by simpa[e1] using e⟩;rw[<- e1,b3E hn' hk,e2]
theorem c0A{eg:List EG}(hn:(eg.map (·.e.id)).Nodup)(id:Int):(a1F id eg).length=eg.length-if (a6U eg id).isSome then 1 else 0:=by
 induction eg with
 |nil=>simp[a1F]
 |cons g eg ih =>
  rw[List.map_cons,List.nodup_cons] at hn;have ih:=ih hn.2
  by_cases e:g.e.id=id
  ·have h0:∀ x∈eg,x.e.id≠id:=fun x hx e2=>hn.1 (List.mem_map.2 ⟨x,hx,by rw[e,e2]⟩)
   have e1:a1F id (g :: eg)=eg:=by
    unfold a1F;rw[List.filter_cons,if_neg (by simp[e])];exact List.filter_eq_self.2 (fun x hx=>by simpa using h0 x hx)
   have e2:(a6U (g :: eg) id).isSome=true:=by rw[a1V,List.find?_cons];simp[e]
   rw[e1,e2];simp
  ·have e1:a1F id (g :: eg)=g :: a1F id eg:=by unfold a1F;rw[List.filter_cons,if_pos (by simpa using e)]
   have e2:a6U (g :: eg) id=a6U eg id:=by rw[a1V,a1V,List.find?_cons];simp[e]
   rw[e1,e2,List.length_cons,List.length_cons,ih]
   have:(if (a6U eg id).isSome then 1 else 0)<=eg.length:=by
    split
    ·rename_i h
     cases eg with
     |nil=>rw[a1V] at h;simp at h
     |cons _ _=>simp
    ·omega
   omega
theorem DK.delE{r:Raw}(h:DK w d r col){m:Nat}{f:Lit->Option Nat}(hc:w.cell? ⟨d,3,none⟩=some (.map (some m)))(hm:col m=some .me)(hf:∀ id,f (b1K id)=a6U r.eg id)(id:Int)(p:a4N Tryz.prog 3 w' m r.eg.length (Go.Proofs.YtfigmlfdnickmaaGreatDoor.upd f (b1K id) none) (r.eg.length-if (f (b1K id)).isSome then 1 else 0))(hg:w.grownBy w' (some m)):
  DK w' d { r with eg:=a1F id r.eg } col/\Step (·=.me) w.heap.size col col w w':=by
 have k:Off [m] w w':=⟨hg.os,hg.tape,hg.output,hg.size,fun i hi hn=>hg.block i hi (by simpa using hn)⟩;have st:Step (·=.me) w.heap.size col col w w':=⟨⟨_,k,fun x hx=>.inl ⟨_,by simp at hx;subst hx;exact hm,rfl⟩⟩,fun _ _ h=>h,fun _ _ h=>.inl h⟩;obtain⟨b1,b2,b3,b4,b5⟩:=h.base st (by simp);refine⟨⟨b1,b2,h.mtC st (b5 2) (by simp),⟨m,upd f (b1K id) none,(b5 3).trans hc,hm,?_,fun x=>?_⟩,h.waC st (b5 4) (by simp),h.heC st (b5 5) (b3 5) (by simp),fun i hi=>h.thS st i hi (by simp),fun g hg=>h.enS st (by simp) (by simp) g ((List.mem_filter.1 hg).1),List.Sublist.nodup (List.filter_sublist.map _) h.nd,List.Sublist.nodup (List.filter_sublist.map _) h.ni,b3,b4,fun x c hx=>zL (h.lt x c hx) st.size⟩,st⟩
 ·have e:=c0A h.ni id;rw[hf] at p;show a4N _ _ _ _ (a1F id r.eg).length _ (a1F id r.eg).length;rw[e];exact p.tight
 ·show upd f (b1K id) none (b1K x)=a6U (a1F id r.eg) x;rw[b6N h.ni]
  by_cases e:x=id
  ·rw[e,a4f,if_pos rfl]
  ·rw[a3n f _ (fun e2=>e (b6H e2)),if_neg e,hf]
theorem b5W{eg:List EG}{g:EG}(hno:∀ x∈eg,x.e.id≠g.e.id)(x:Int):a6U (eg++[g]) x=if x=g.e.id then some g.eb else a6U eg x:=by
 by_cases e:x=g.e.id
 ·rw[if_pos e,a1V,List.find?_append];have:eg.find? (fun y=>decide (y.e.id=x))=none:=List.find?_eq_none.2 (fun y hy=>by simpa[e] using hno y hy);rw[this];simp[e]
 ·rw[if_neg e,a1V,a1V,List.find?_append]
  cases h:eg.find? fun y=>decide (y.e.id=x) with
  |none=>simp[Ne.symm e]
  |some y=>simp
theorem a3r{tg:List TG}:b2r tg name=((tg.find? fun t=>Desk.a0y t.name name).map (·.tb)):=by
 unfold b2r;rw[List.find?_map]
 cases h:tg.find? ((fun p=>Desk.a0y p.1 name) ∘ fun t=>(t.name,t.tb)) with
 |none=>have h':tg.find? (fun t=>Desk.a0y t.name name)=none:=h;rw[h'];rfl
 |some g=>have h':tg.find? (fun t=>Desk.a0y t.name name)=some g:=h;rw[h'];rfl
theorem b9k{tg:List TG}{t:TG}(hno:∀ x∈tg,x.name≠t.name)(name:ByteArray):b2r (tg++[t]) name=@ite _ (name=t.name) (Classical.propDecidable _) (some t.tb) (b2r tg name):=by
 by_cases e:name=t.name
 ·rw[if_pos e,a3r,List.find?_append];have:tg.find? (fun y=>Desk.a0y y.name name)=none:=List.find?_eq_none.2 (fun y hy=>by rw[Bool.not_eq_true,a3d,e];exact hno y hy);rw[this];have:Desk.a0y t.name name=true:=a4l.2 e.symm;simp[this]
 ·rw[if_neg e,a3r,a3r,List.find?_append]
  cases h:tg.find? fun y=>Desk.a0y y.name name with
  |none =>
   have:Desk.a0y t.name name=false:=a3d.2 (Ne.symm e);simp[this]
  |some y=>simp
theorem b3L{r:Raw}(h:DK w d r col)(hh:Hp.a6r r.hl)(hl:r.hl.length<=1000)(t n:Int)(hx:∃ x∈r.hl,x.t=t/\x.n=n):
  Calls Tryz.prog 149 #[.pointer (some ⟨d,5,none⟩),.int .i64 t,.int .i64 n] w fun e w'=>e=.returned (.tuple #[])/\∃ (x:Hp.Hi) (l':List Hp.Hi) (col':Nat->Option Col),x.t=t/\x.n=n/\Hp.a6r l'/\r.hl.Perm (x :: l')/\DK w' d { r with hl:=l' } col'/\Step (fun c=>c=.he\/c=.desk) w.heap.size col col' w w':=by
 obtain⟨v,a1,a2⟩:=h.he;refine (c0G d 5 v r.hl t n w a1 hh hl).mono ?_;rintro e w' ⟨rfl,hk⟩;refine⟨rfl,?_⟩;rcases hk with ⟨hk,_⟩|⟨x,l',e1,e2,p,h1,h2⟩
 ·obtain⟨x,hx1,hx2⟩:=hx;exact absurd hx2 (hk x hx1)
 ·obtain⟨col',k1,k2⟩:=h.heap a2 p;exact⟨x,l',col',e1,e2,h1,h2,k1,k2⟩
def b1x(c:Col):Prop:=c=.he\/c=.desk\/c=.ent
def a7R(w:World)(d:Nat)(r:Raw)(col:Nat->Option Col)(g:EG)(w':World):Prop :=
 ∃ (x:Hp.Hi) (l':List Hp.Hi) (col':Nat->Option Col),x.t=g.e.a0Z/\x.n=g.e.id/\Hp.a6r l'/\r.hl.Perm (x :: l')/\DK w' d { r with eg:=a1R g.e.id 1 0 r.eg,hl:=l' } col'/\Step b1x w.heap.size col col' w w'
theorem b0w{r:Raw}(h:DK w d r col)(hh:Hp.a6r r.hl)(hl:r.hl.length<=1000){g:EG}(hg:g∈r.eg)(hx:∃ x∈r.hl,x.t=g.e.a0Z/\x.n=g.e.id):
  Calls Tryz.prog 105 #[.pointer (some ⟨d,0,none⟩),.pointer (some ⟨g.eb,0,none⟩)] w fun e w'=>e=.returned (.tuple #[])/\a7R w d r col g w':=by
 obtain⟨g1,g2,g3⟩:=h.en g hg;have c0:=g1.en.c0;have c5:=g1.u;have DR:=a0b (fun wx (k:Below w.heap.size w wx)=>b3L (h.later k) hh hl g.e.a0Z g.e.id hx);have HG:=a0b (zA hg g2);clear h g3
 go_enter Tryz.func105,Tryz.ntmps105
 go_upto_region 0 with fail
 go_region_held3 (fun w'=>w'.cell? ⟨g.eb,0,none⟩=some (.int .i64 g.e.id)/\w'.cell? ⟨g.eb,5,none⟩=some (.int .i64 g.e.a0Z))
  (first
   |exact⟨c0,c5⟩
   |exact⟨((k5.en g HG.out.1).1).en.c0,((k5.en g HG.out.1).1).u⟩)
  (first
   |(go_at_call 149;refine (DR.out _ (a0q w)).mono ?_;rintro e w4 ⟨rfl,x,l',col1,k1,k2,k3,k4,k5,k6⟩))
 obtain⟨q1,q2,q3⟩:=k5.en g HG.out.1;have d1:=q1.k;have d5:=q1.u;have f1:=q1.fz 1;have f5:=q1.fz 5;have SE:=a0b (k5.setEnt (g:=g) HG.out.1 1 0);have KK:=a0b (zA k1 (zA k2 (zA k3 (zA k4 k6))));clear q1 q2 q3 k1 k2 k3 k4 k5 k6 DR c0 c5
 go_wp2_with fail
 go_end0
 obtain⟨k1,k2,k3,k4,k6⟩:=KK.out;obtain⟨s1,s2⟩:=SE.out;refine⟨rfl,(⟨x,l',col1,k1,k2,k3,k4,s1,?_⟩:a7R _ _ _ _ _ _)⟩;have t1:Step b1x w.heap.size col col1 w w4:=(Step.below (a0q w)).trans (k6.mono (fun c hc=>by unfold b1x;rcases hc with e|e;exact .inl e;exact .inr (.inl e)) (zq _));exact t1.trans (s2.mono (fun c hc=>.inr (.inr hc)) t1.size)
theorem b3r(eb:Nat)(kind:Int)(w:World)(c:w.cell? ⟨eb,1,none⟩=some (.int .i64 kind)):
  Calls Tryz.prog 107 #[.pointer (some ⟨eb,0,none⟩)] w fun e w'=>e=.returned (.bool (kind==1))/\w'=w:=by
 go_enter Tryz.func107,Tryz.ntmps107
 go_wp2_with fail
 go_ret;exact⟨rfl,rfl⟩
theorem c6o:(Tryz.prog.info? 200).map (fun i=>i.size)=some 6:=by kernel_rfl
theorem c7z(w:World)(a b:Nat)(ha:∃ cs,w.heap[a]?=some (.cells cs 200 (0,0)))(hb:∃ cs,w.heap[b]?=some (.cells cs 200 (0,0))):
  (binOp .eql 197 (.pointer (some ⟨b,0,none⟩)) (.pointer (some ⟨a,0,none⟩))).run Tryz.prog w=.ok (.bool (b==a)) w:=by
 obtain⟨j,hj⟩:∃ j,Tryz.prog.info? 200=some j:=by
  cases h:Tryz.prog.info? 200 with
  |none=>have:=c6o;rw[h] at this;cases this
  |some j=>exact⟨j,rfl⟩
 have hs:j.size≠0:=by
  have:=c6o;rw[hj] at this;simp at this;omega
 by_cases e:b=a
 ·subst e;rw[run_eql_ptr_same w _ Tryz.underlying197 hj];simp
 ·obtain⟨ca,ha⟩:=ha;obtain⟨cb,hb⟩:=hb;rw[run_eql_ptr_other w (a:=⟨b,0,none⟩) (b:=⟨a,0,none⟩) Tryz.underlying197 hj hs (by have:=e;simp) hb ha];simp[e]
theorem b8j(A a b:Nat)(w:World)(c:w.cell? ⟨A,0,none⟩=some (.pointer (some ⟨a,0,none⟩)))(ha:∃ cs,w.heap[a]?=some (.cells cs 200 (0,0)))(hb:∃ cs,w.heap[b]?=some (.cells cs 200 (0,0))):
  Calls Tryz.prog 206 #[.pointer (some ⟨b,0,none⟩),.pointer (some ⟨A,0,none⟩)] w fun e w'=>e=.returned (.bool (b==a))/\w'=w:=by
 have he:=c7z w a b ha hb;clear ha hb
 go_enter Tryz.func206,Tryz.ntmps206
 go_wp2_with fail
 go_ret;exact⟨rfl,rfl⟩
theorem b6j{base:Nat}{e:TypeId}{g:Nat}(h:w.ownsRow base e 1 (.slice (some ⟨g,0,none⟩) n cap) n xs)(hi:i<=n):w.ownsRow base e 1 (.slice (some ⟨g,0,none⟩) i cap) i (xs.take i):=by
 obtain⟨h1,h2⟩:=h;refine⟨by rw[List.length_take];omega,?_⟩;rcases h2 with ⟨h0,_⟩|⟨g',cap',cur,hv,hg,hh,hn,hcap,hsz,htake⟩
 ·cases h0
 ·cases hv
  refine .inr ⟨g,cap,cur,rfl,hg,hh,by omega,hcap,hsz,?_⟩;rw[<- htake,List.take_take]
  congr 1
  omega
theorem a4Z{base:Nat}{e:TypeId}{g n cap:Nat}{xs:List Value}:∀ (vs:List Value)(o:Nat)(w:World),n<=o->w.ownsRow base e 1 (.slice (some ⟨g,0,none⟩) n cap) n xs->(w.setCells g o vs).ownsRow base e 1 (.slice (some ⟨g,0,none⟩) n cap) n xs
 |[],_,_,_,h=>h
 |v :: r,o,w,ho,h=>by
  refine a4Z r (o+1) _ (by omega) ?_;have:=(h.stored o v).1
  rwa [List.set_eq_of_length_le (by have:=h.1;omega)] at this
theorem a5a{g:Nat}:∀ (vs:List Value)(o:Nat)(w:World),Off [g] w (w.setCells g o vs)
 |[],_,_=>Off.refl _ _
 |v :: r,o,w=>(Off.set0 g w o v).trans (a5a r (o+1) _)
structure a8s(L:List Nat)(p:Nat->Bool)(i j:Nat)(M:List Nat):Prop where
 len:M.length=L.length
 ij:i<j
 jl:j<=L.length
 lo:M.take i=(L.take j).filter fun b=>!p b
 hi:∀ k,j<=k->M[k]?=L[k]?
theorem a8s.skip(h:a8s L p i j M)(hj:j<L.length)(hp:p L[j]=true):a8s L p i (j+1) M:=by
 refine⟨h.len,by have:=h.ij;omega,by omega,?_,fun k hk=>h.hi k (by omega)⟩;rw[h.lo,List.take_succ_eq_append_getElem hj,List.filter_append];simp[hp]
theorem a8s.a9i(h:a8s L p i j M)(hj:j<L.length)(hp:p L[j]=false):a8s L p (i+1) (j+1) (M.set i L[j]):=by
 have hij:=h.ij;have hl:=h.len;refine⟨by simpa using hl,by omega,by omega,?_,fun k hk=>?_⟩
 ·rw[List.take_succ_eq_append_getElem hj,List.filter_append,<- h.lo,List.take_succ_eq_append_getElem (by simp;omega),List.take_set_of_le (zq _)];simp[hp]
 ·rw[List.getElem?_set_ne (by omega)];exact h.hi k (by omega)
theorem a8s.new(hk:k<L.length)(hp:p L[k]=true)(h0:∀ (j:Nat)(hj:j<k),p (L[j]'(by omega))=false):a8s L p k (k+1) L:=by
 refine⟨rfl,by omega,by omega,?_,fun _ _=>rfl⟩;rw[List.take_succ_eq_append_getElem hk,List.filter_append];simp only[hp,List.filter_cons,Bool.not_true,Bool.false_eq_true,if_false,List.filter_nil,List.append_nil];refine (List.filter_eq_self.2 (fun b hb=>?_)).symm;obtain⟨j,hj,rfl⟩:=List.getElem_of_mem hb;have hj':j<k:=by rw[List.length_take] at hj;omega
 simp[h0 j hj']
def c1D(w:World)(L:List Nat)(p:Nat->Bool):Prop :=
 ∀ b∈L,Calls Tryz.prog 107 #[.pointer (some ⟨b,0,none⟩)] w fun e w'=>e=.returned (.bool (p b))/\w'=w
theorem b5e(L:List Nat)(p:Nat->Bool)(v:Value)(w:World)(ht:c1D w L p)(own:w.ownsRow 0 197 1 v L.length (L.map a5x))(hl:L.length<=1000):
  Calls Tryz.prog 160 #[v,.func (.func 107) #[] #[]] w fun e w'=>e=.returned (.int .i64 (a3z p L 0))/\w'=w:=by
 have hv:∃ a cap,v=.slice a L.length cap:=by
  rcases own.2 with ⟨rfl,h⟩|⟨g,cap,_,rfl,_⟩
  ·rw[h];exact⟨_,_,rfl⟩
  ·exact⟨_,_,rfl⟩
 obtain⟨a,cap,rfl⟩:=hv;have OWN:=a0b own;have TE:=a0b ht;clear own ht
 go_enter Tryz.func160,Tryz.ntmps160
 go_wp2_with fail
 go_loop [8] (fun i=>∃ k:Nat,k<=L.length/\i=.int .i64 k/\a3z p L 0=a3z p (L.drop k) k) (fun i=>L.length-(intOf i).toNat)
 case atStart=>exact⟨0,Nat.zero_le _,rfl,rfl⟩
 case round =>
  obtain⟨j,hj,rfl,hu⟩:=hrel;have HU:=a0b hu;clear hu
  by_cases hlt:j<L.length
  ·have hi:(j:Int)<(L.length:Int):=by omega
   obtain⟨H,cap',e1⟩:=Joins.ownsRow_form OWN.out (by omega);simp only[Value.slice.injEq,true_and] at e1;obtain⟨rfl,rfl⟩:=e1;have a0:=OWN.out.cellAt j (by omega);rw[List.getElem?_map,List.getElem?_eq_getElem hlt,Option.map_some] at a0;unfold a5x at a0;have D1:=a0b (TE.out L[j] (zg hlt));have ed:a3z p (L.drop j) j=if p L[j] then (j:Int) else a3z p (L.drop (j+1)) ((j+1:Nat):Int):=by rw[List.drop_eq_getElem_cons hlt];rfl
   have ED:=a0b ed;clear ed
   cases hq:p L[j]
   ·have HN:Hid (a3z p L 0=a3z p (L.drop (j+1)) ((j+1:Nat):Int)):=by show _=_;rw[HU.out,ED.out,hq];rfl
    rw[hq] at D1;clear hq
    go_wp2_with fail
    refine D1.out.mono ?_;rintro e w1 ⟨rfl,hw⟩;rw[hw];clear a0 D1 hw
    go_wp2_with fail
    go_round
    case rel=>exact⟨j+1,by omega,by go_num,HN.out⟩
    case measure=>simp[intOf];omega
   ·have HN:Hid (a3z p L 0=j):=by show _=_;rw[HU.out,ED.out,hq];rfl
    rw[hq] at D1;clear hq
    go_wp2_with fail
    refine D1.out.mono ?_;rintro e w1 ⟨rfl,hw⟩;rw[hw];clear a0 D1 hw
    go_wp2_with fail
    go_ret;exact⟨a1L HN.out.symm,rfl⟩
  ·have hi:¬ (j:Int)<(L.length:Int):=by omega
   have e:L.drop j=[]:=List.drop_eq_nil_of_le (by omega);have HN:Hid (a3z p L 0=-1):=by show _=_;rw[HU.out,e];rfl
   clear e
   go_wp2_with fail
   go_ret;exact⟨a1L HN.out.symm,rfl⟩
theorem c1e(L:List Nat)(p:Nat->Bool)(v:Value)(w:World)(ht:∀ wx,Off v.ownBlock.toList w wx->c1D wx L p)(own:w.ownsRow 0 197 1 v L.length (L.map a5x))(hl:L.length<=1000):
  Calls Tryz.prog 106 #[v,.func (.func 107) #[] #[]] w fun e w'=>∃ v',e=.returned v'/\Off v.ownBlock.toList w w'/\w'.ownsRow 0 197 1 v' (L.filter fun b=>!p b).length ((L.filter fun b=>!p b).map a5x)/\v'.ownBlock=v.ownBlock:=by
 have IX:=a0b (b5e L p v w (ht w (Off.refl _ _)) own hl);have hq:=a7F p L 0
 go_enter Tryz.func106,Tryz.ntmps106
 go_wp2_with fail
 refine IX.out.mono ?_;rintro e w1 ⟨rfl,rfl⟩;rcases hq with ⟨e1,e2⟩|⟨k,hk,e1,e2,e3⟩
 ·rw[e1];have ef:(L.filter fun b=>!p b)=L:=List.filter_eq_self.2 (fun b hb=>by simp[e2 b hb]);have HF:Hid (w1.ownsRow 0 197 1 v (L.filter fun b=>!p b).length ((L.filter fun b=>!p b).map a5x)):=by show w1.ownsRow _ _ _ _ _ _;rw[ef];exact own
  clear e1 e2 ef IX ht own
  go_wp2_with fail
  go_ret;exact⟨v,rfl,Off.refl _ _,HF.out,rfl⟩
 ·have hpos:0<L.length:=by omega
  obtain⟨H,cap,hv⟩:=Joins.ownsRow_form own hpos;subst hv;rw[e1,Int.zero_add];have D0:=a0b (a8s.new hk e2 e3);have OWN:=a0b own;have HT:=a0b ht;have w3:IntKind.i64.wrap ((k:Int)+1)=((k+1:Nat):Int):=by rw[a0i (by omega) (by omega)];omega
  have hne:((k:Int)==-1)=false:=by simp
  clear e1 e2 e3 IX ht own
  go_wp2_with fail
  go_loopw [5,6,7] (fun vi vj _ wx=>∃ (i j:Nat) (M:List Nat),vi=.int .i64 i/\vj=.int .i64 j/\a8s L p i j M/\Off [H] w1 wx/\wx.ownsRow 0 197 1 (.slice (some ⟨H,0,none⟩) L.length cap) L.length (M.map a5x)) (fun _ vj _ _=>L.length-(intOf vj).toNat)
  case atStart=>exact⟨k,k+1,L,rfl,rfl,D0.out,Off.refl _ _,OWN.out⟩
  case round =>
   obtain⟨i,j,M,rfl,rfl,hd,ho,hw⟩:=hrel;have hij:=hd.ij;have hjl:=hd.jl;have hml:=hd.len;have HD:=a0b (zA hd (zA ho hw))
   by_cases hlt:j<L.length
   ·have hj:(j:Int)<(L.length:Int):=by omega
    have hi:(i:Int)<(L.length:Int):=by omega
    have a0:=hw.cellAt j (by omega);rw[List.getElem?_map,hd.hi j (zq _),List.getElem?_eq_getElem hlt,Option.map_some] at a0;have b0:=hw.cellAt i (by omega);rw[List.getElem?_map,List.getElem?_eq_getElem (by omega),Option.map_some] at b0;have f0:=hw.frozenAt i;unfold a5x at a0 b0;have D1:=a0b (HT.out wr ho L[j] (zg hlt));have wi:IntKind.i64.wrap ((i:Int)+1)=((i+1:Nat):Int):=by rw[a0i (by omega) (by omega)];omega
    have wj:IntKind.i64.wrap ((j:Int)+1)=((j+1:Nat):Int):=by rw[a0i (by omega) (by omega)];omega
    clear ho hd
    cases hq:p L[j]
    ·have DN:=a0b (HD.out.1.a9i hlt hq);have WN:=a0b ((hw.stored i (a5x L[j])).1);have ON:=a0b (HD.out.2.1.trans (Off.set0 H wr i (a5x L[j])));rw[hq] at D1;unfold a5x at WN ON;clear hq hw
     go_wp2_with fail
     refine D1.out.mono ?_;rintro e w2 ⟨rfl,hw⟩;rw[hw];clear D1 hw
     go_wp2_with fail
     go_roundw
     case rel=>exact⟨i+1,j+1,M.set i L[j],rfl,rfl,DN.out,ON.out,by rw[List.map_set];exact WN.out⟩
     case measure=>simp[intOf];omega
    ·have DN:=a0b (HD.out.1.skip hlt hq);rw[hq] at D1;clear hq hw
     go_wp2_with fail
     refine D1.out.mono ?_;rintro e w2 ⟨rfl,hw⟩;rw[hw];clear D1 hw
     go_wp2_with fail
     go_roundw
     case rel=>exact⟨i,j+1,M,rfl,rfl,DN.out,HD.out.2.1,HD.out.2.2⟩
     case measure=>simp[intOf];omega
   ·have hj:¬ ((j:Int)<(L.length:Int)):=by omega
    have hje:j=L.length:=by omega
    have hcap:L.length<=cap:=by
     rcases hw.2 with ⟨h0,_⟩|⟨g',cap',cur,hv,_,_,h1,_⟩
     ·cases h0
     ·cases hv;exact h1
    have hcl:∀ ty,(Builtin.clear_ #[139] ty #[.slice (some ⟨H,i,none⟩) (L.length-i) (cap-i)]).run Tryz.prog wr=.ok (.tuple #[]) (wr.setCells H i (List.replicate (L.length-i) (.pointer none))) :=
     fun ty=>Lib.run_clear_slice wr _ _ ty (.pointer none) Tryz.underlying139 (fun w=>by simp[go_sem]) rfl rfl H i _ _ (by omega) (fun t ht=>by rw[hw.cellAt (i+t) (by omega)];simp;omega) (fun t ht=>hw.frozenAt (i+t))
    have hii:(i:Int)<=(L.length:Int):=by omega
    have hic:(i:Int)<=(cap:Int):=by omega
    have HF:Hid (Off [H] w1 (wr.setCells H i (List.replicate (L.length-i) (.pointer none)))/\(wr.setCells H i (List.replicate (L.length-i) (.pointer none))).ownsRow 0 197 1 (.slice (some ⟨H,0,none⟩) i cap) (L.filter fun b=>!p b).length ((L.filter fun b=>!p b).map a5x)):=by
     have e1:(L.filter fun b=>!p b)=M.take i:=by rw[hd.lo,hje,List.take_of_length_le (zq _)]
     have e2:(M.take i).length=i:=by rw[List.length_take];omega
     refine⟨ho.trans (a5a _ _ _),?_⟩;rw[e1,e2,List.map_take];exact a4Z _ i wr (zq _) (b6j hw (by omega))
    clear hd ho hw HD HT OWN D0 hje
    go_wp2_with fail
    go_ret;exact⟨_,rfl,HF.out.1,HF.out.2,rfl⟩
def c1C(A:Nat)(w:World)(L:List Nat)(p:Nat->Bool):Prop :=
 ∀ b∈L,Calls Tryz.prog 206 #[.pointer (some ⟨b,0,none⟩),.pointer (some ⟨A,0,none⟩)] w fun e w'=>e=.returned (.bool (p b))/\w'=w
theorem b5d(A:Nat)(L:List Nat)(p:Nat->Bool)(v:Value)(w:World)(ht:c1C A w L p)(own:w.ownsRow 0 197 1 v L.length (L.map a5x))(hl:L.length<=1000):
  Calls Tryz.prog 160 #[v,.func (.func 206) #[] #[.pointer (some ⟨A,0,none⟩)]] w fun e w'=>e=.returned (.int .i64 (a3z p L 0))/\w'=w:=by
 have hv:∃ a cap,v=.slice a L.length cap:=by
  rcases own.2 with ⟨rfl,h⟩|⟨g,cap,_,rfl,_⟩
  ·rw[h];exact⟨_,_,rfl⟩
  ·exact⟨_,_,rfl⟩
 obtain⟨a,cap,rfl⟩:=hv;have OWN:=a0b own;have TE:=a0b ht;clear own ht
 go_enter Tryz.func160,Tryz.ntmps160
 go_wp2_with fail
 go_loop [8] (fun i=>∃ k:Nat,k<=L.length/\i=.int .i64 k/\a3z p L 0=a3z p (L.drop k) k) (fun i=>L.length-(intOf i).toNat)
 case atStart=>exact⟨0,Nat.zero_le _,rfl,rfl⟩
 case round =>
  obtain⟨j,hj,rfl,hu⟩:=hrel;have HU:=a0b hu;clear hu
  by_cases hlt:j<L.length
  ·have hi:(j:Int)<(L.length:Int):=by omega
   obtain⟨H,cap',e1⟩:=Joins.ownsRow_form OWN.out (by omega);simp only[Value.slice.injEq,true_and] at e1;obtain⟨rfl,rfl⟩:=e1;have a0:=OWN.out.cellAt j (by omega);rw[List.getElem?_map,List.getElem?_eq_getElem hlt,Option.map_some] at a0;unfold a5x at a0;have D1:=a0b (TE.out L[j] (zg hlt));have ed:a3z p (L.drop j) j=if p L[j] then (j:Int) else a3z p (L.drop (j+1)) ((j+1:Nat):Int):=by rw[List.drop_eq_getElem_cons hlt];rfl
   have ED:=a0b ed;clear ed
   cases hq:p L[j]
   ·have HN:Hid (a3z p L 0=a3z p (L.drop (j+1)) ((j+1:Nat):Int)):=by show _=_;rw[HU.out,ED.out,hq];rfl
    rw[hq] at D1;clear hq
    go_wp2_with fail
    refine D1.out.mono ?_;rintro e w1 ⟨rfl,hw⟩;rw[hw];clear a0 D1 hw
    go_wp2_with fail
    go_round
    case rel=>exact⟨j+1,by omega,by go_num,HN.out⟩
    case measure=>simp[intOf];omega
   ·have HN:Hid (a3z p L 0=j):=by show _=_;rw[HU.out,ED.out,hq];rfl
    rw[hq] at D1;clear hq
    go_wp2_with fail
    refine D1.out.mono ?_;rintro e w1 ⟨rfl,hw⟩;rw[hw];clear a0 D1 hw
    go_wp2_with fail
    go_ret;exact⟨a1L HN.out.symm,rfl⟩
  ·have hi:¬ (j:Int)<(L.length:Int):=by omega
   have e:L.drop j=[]:=List.drop_eq_nil_of_le (by omega);have HN:Hid (a3z p L 0=-1):=by show _=_;rw[HU.out,e];rfl
   clear e
   go_wp2_with fail
   go_ret;exact⟨a1L HN.out.symm,rfl⟩
theorem c1d(A:Nat)(L:List Nat)(p:Nat->Bool)(v:Value)(w:World)(ht:∀ wx,Off v.ownBlock.toList w wx->c1C A wx L p)(own:w.ownsRow 0 197 1 v L.length (L.map a5x))(hl:L.length<=1000):
  Calls Tryz.prog 106 #[v,.func (.func 206) #[] #[.pointer (some ⟨A,0,none⟩)]] w fun e w'=>∃ v',e=.returned v'/\Off v.ownBlock.toList w w'/\w'.ownsRow 0 197 1 v' (L.filter fun b=>!p b).length ((L.filter fun b=>!p b).map a5x)/\v'.ownBlock=v.ownBlock:=by
 have IX:=a0b (b5d A L p v w (ht w (Off.refl _ _)) own hl);have hq:=a7F p L 0
 go_enter Tryz.func106,Tryz.ntmps106
 go_wp2_with fail
 refine IX.out.mono ?_;rintro e w1 ⟨rfl,rfl⟩;rcases hq with ⟨e1,e2⟩|⟨k,hk,e1,e2,e3⟩
 ·rw[e1];have ef:(L.filter fun b=>!p b)=L:=List.filter_eq_self.2 (fun b hb=>by simp[e2 b hb]);have HF:Hid (w1.ownsRow 0 197 1 v (L.filter fun b=>!p b).length ((L.filter fun b=>!p b).map a5x)):=by show w1.ownsRow _ _ _ _ _ _;rw[ef];exact own
  clear e1 e2 ef IX ht own
  go_wp2_with fail
  go_ret;exact⟨v,rfl,Off.refl _ _,HF.out,rfl⟩
 ·have hpos:0<L.length:=by omega
  obtain⟨H,cap,hv⟩:=Joins.ownsRow_form own hpos;subst hv;rw[e1,Int.zero_add];have D0:=a0b (a8s.new hk e2 e3);have OWN:=a0b own;have HT:=a0b ht;have w3:IntKind.i64.wrap ((k:Int)+1)=((k+1:Nat):Int):=by rw[a0i (by omega) (by omega)];omega
  have hne:((k:Int)==-1)=false:=by simp
  clear e1 e2 e3 IX ht own
  go_wp2_with fail
  go_loopw [5,6,7] (fun vi vj _ wx=>∃ (i j:Nat) (M:List Nat),vi=.int .i64 i/\vj=.int .i64 j/\a8s L p i j M/\Off [H] w1 wx/\wx.ownsRow 0 197 1 (.slice (some ⟨H,0,none⟩) L.length cap) L.length (M.map a5x)) (fun _ vj _ _=>L.length-(intOf vj).toNat)
  case atStart=>exact⟨k,k+1,L,rfl,rfl,D0.out,Off.refl _ _,OWN.out⟩
  case round =>
   obtain⟨i,j,M,rfl,rfl,hd,ho,hw⟩:=hrel;have hij:=hd.ij;have hjl:=hd.jl;have hml:=hd.len;have HD:=a0b (zA hd (zA ho hw))
   by_cases hlt:j<L.length
   ·have hj:(j:Int)<(L.length:Int):=by omega
    have hi:(i:Int)<(L.length:Int):=by omega
    have a0:=hw.cellAt j (by omega);rw[List.getElem?_map,hd.hi j (zq _),List.getElem?_eq_getElem hlt,Option.map_some] at a0;have b0:=hw.cellAt i (by omega);rw[List.getElem?_map,List.getElem?_eq_getElem (by omega),Option.map_some] at b0;have f0:=hw.frozenAt i;unfold a5x at a0 b0;have D1:=a0b (HT.out wr ho L[j] (zg hlt));have wi:IntKind.i64.wrap ((i:Int)+1)=((i+1:Nat):Int):=by rw[a0i (by omega) (by omega)];omega
    have wj:IntKind.i64.wrap ((j:Int)+1)=((j+1:Nat):Int):=by rw[a0i (by omega) (by omega)];omega
    clear ho hd
    cases hq:p L[j]
    ·have DN:=a0b (HD.out.1.a9i hlt hq);have WN:=a0b ((hw.stored i (a5x L[j])).1);have ON:=a0b (HD.out.2.1.trans (Off.set0 H wr i (a5x L[j])));rw[hq] at D1;unfold a5x at WN ON;clear hq hw
     go_wp2_with fail
     refine D1.out.mono ?_;rintro e w2 ⟨rfl,hw⟩;rw[hw];clear D1 hw
     go_wp2_with fail
     go_roundw
     case rel=>exact⟨i+1,j+1,M.set i L[j],rfl,rfl,DN.out,ON.out,by rw[List.map_set];exact WN.out⟩
     case measure=>simp[intOf];omega
    ·have DN:=a0b (HD.out.1.skip hlt hq);rw[hq] at D1;clear hq hw
     go_wp2_with fail
     refine D1.out.mono ?_;rintro e w2 ⟨rfl,hw⟩;rw[hw];clear D1 hw
     go_wp2_with fail
     go_roundw
     case rel=>exact⟨i,j+1,M,rfl,rfl,DN.out,HD.out.2.1,HD.out.2.2⟩
     case measure=>simp[intOf];omega
   ·have hj:¬ ((j:Int)<(L.length:Int)):=by omega
    have hje:j=L.length:=by omega
    have hcap:L.length<=cap:=by
     rcases hw.2 with ⟨h0,_⟩|⟨g',cap',cur,hv,_,_,h1,_⟩
     ·cases h0
     ·cases hv;exact h1
    have hcl:∀ ty,(Builtin.clear_ #[139] ty #[.slice (some ⟨H,i,none⟩) (L.length-i) (cap-i)]).run Tryz.prog wr=.ok (.tuple #[]) (wr.setCells H i (List.replicate (L.length-i) (.pointer none))) :=
     fun ty=>Lib.run_clear_slice wr _ _ ty (.pointer none) Tryz.underlying139 (fun w=>by simp[go_sem]) rfl rfl H i _ _ (by omega) (fun t ht=>by rw[hw.cellAt (i+t) (by omega)];simp;omega) (fun t ht=>hw.frozenAt (i+t))
    have hii:(i:Int)<=(L.length:Int):=by omega
    have hic:(i:Int)<=(cap:Int):=by omega
    have HF:Hid (Off [H] w1 (wr.setCells H i (List.replicate (L.length-i) (.pointer none)))/\(wr.setCells H i (List.replicate (L.length-i) (.pointer none))).ownsRow 0 197 1 (.slice (some ⟨H,0,none⟩) i cap) (L.filter fun b=>!p b).length ((L.filter fun b=>!p b).map a5x)):=by
     have e1:(L.filter fun b=>!p b)=M.take i:=by rw[hd.lo,hje,List.take_of_length_le (zq _)]
     have e2:(M.take i).length=i:=by rw[List.length_take];omega
     refine⟨ho.trans (a5a _ _ _),?_⟩;rw[e1,e2,List.map_take];exact a4Z _ i wr (zq _) (b6j hw (by omega))
    clear hd ho hw HD HT OWN D0 hje
    go_wp2_with fail
    go_ret;exact⟨_,rfl,HF.out.1,HF.out.2,rfl⟩
def a5U(c:Col):Prop:=c=.me\/c=.wa\/c=.desk\/∃ i,c=.a0k i
def b4c(w:World)(d:Nat)(r:Raw)(col:Nat->Option Col)(g:EG)(i:Nat)(hi:i<r.tg.length)(w':World):Prop :=
 ∃ col',DK w' d ({ r with eg:=a1F g.e.id r.eg }.setT i (r.tg[i].with (a1z r.tg[i].A g.e.a0e (-g.e.a0c)) (a4w g.e.id r.tg[i].T g.e.a0e))) col'/\Step a5U w.heap.size col col' w w'
theorem c3P(w:World):(zeroValue 197).run Tryz.prog w=.ok (.pointer none) w:=by simp[go_sem]
theorem b8i{r:Raw}(h:DK w d r col){g:EG}(hg:g∈r.eg)(hk:g.e.kind≠3)(i:Nat)(hi:i<r.tg.length)(ht:g.tb=r.tg[i].tb)(hf:Fit r.tg[i] g.e)(ho:Avl.Ord (Avl.a0w r.tg[i].T))(hz:Avl.size r.tg[i].T<=9000)(hA:∀ p,0<=a1z r.tg[i].A g.e.a0e (-g.e.a0c) p)(hid:0<=g.e.id/\g.e.id<=1000):
  Calls Tryz.prog 150 #[.pointer (some ⟨d,0,none⟩),.pointer (some ⟨g.eb,0,none⟩)] w fun e w'=>e=.returned (.tuple #[])/\b4c w d r col g i hi w':=by
 have hX:Below w.heap.size w (w.alloc (.cells #[.pointer (some ⟨g.eb,0,none⟩)] 197)):=(zr _ _).alloc (zq _) _;have hx:=h.later hX;have xb:(w.alloc (.cells #[.pointer (some ⟨g.eb,0,none⟩)] 197)).cell? ⟨w.heap.size,0,none⟩=some (.pointer (some ⟨g.eb,0,none⟩)):=by simp
 have hxs:w.heap.size<(w.alloc (.cells #[.pointer (some ⟨g.eb,0,none⟩)] 197)).heap.size:=by simp
 have hcn:col w.heap.size=none:=by
  cases e:col w.heap.size with
  |none=>rfl
  |some c=>have:=h.lt _ _ e;omega
 have HX:=a0b (zA hX (zA hxs hcn));clear h hX hxs hcn
 go_enter Tryz.func150,Tryz.ntmps150
 go_upto_region 1 with fail
 generalize (w.alloc (.cells #[.pointer (some ⟨g.eb,0,none⟩)] 197))=X at hx xb HX ⊢;obtain⟨g1,g2,g3⟩:=hx.en g hg;obtain⟨m,f,a1,a2,a3,a4⟩:=hx.me;have c0:=g1.en.c0;have hkb:(g.e.kind != 3)=true:=by simpa using hk
 have kk:=a9g (n:=g.e.id) (by omega) (by omega);obtain⟨w1,hrun,p1,p2⟩:=(a3.block (w':=X.drew) rfl).dropRun b3h Tryz.underlying138 kk 0;have hxd:=hx.later (a0q X);have DD:=a0b (hxd.delE a1 a2 a4 g.e.id p1 p2);have E1:=a0b (DD.out.2.enk (hxd.en g hg).1 (.inl ⟨_,g2,by simp⟩) (.inl ⟨_,g3,by simp⟩));have ck1:=E1.out.k;have co1:=E1.out.en.c1;have xb1:w1.cell? ⟨w.heap.size,0,none⟩=some (.pointer (some ⟨g.eb,0,none⟩)):=(zo (w:=X) (DD.out.2.blockN HX.out.2.1 HX.out.2.2 HX.out.2.1)).trans xb;clear hx hxd a3 p1 p2 a4
 go_big_region
 clear hrun xb a1 c0;have hN1:w.heap.size<w1.heap.size:=World.block_lt_of_cell? _ _ xb1;have NCOL:=a0b (zA HX.out.2.2 hN1);have XB:=a0b HX.out.1;have G23:=a0b (zA g2 g3);have RL:=a0b (fun wx (k:Below w1.heap.size w1 wx)=>b3G (DD.out.1.later k) i hi (E1.out.off (G:=[]) (Off.of_below k) (by simp) (by simp)) ht (by rw[g2];simp) (by rw[g3];simp) hf ho hz hA);clear g1 g2 g3 hf ho hz hA HX kk a2 ht;generalize w.heap.size=N at xb1 NCOL ⊢
 have AF:Hid (∀ w2 col2,Step (·=.a0k i) w1.drew.heap.size col col2 w1.drew w2->w2.cell? ⟨N,0,none⟩=some (.pointer (some ⟨g.eb,0,none⟩))/\w2.cell? ⟨g.eb,2,none⟩=some (.pointer (some ⟨g.tb,0,none⟩))):=fun w2 col2 q2 =>
  ⟨(zo (w:=w1) (q2.blockN NCOL.out.2 NCOL.out.1 NCOL.out.2)).trans xb1,q2.cellC G23.out.1 (by simp) co1⟩
 go_upto_region 3 with fail
 go_region_held3 (fun w'=>w'.cell? ⟨N,0,none⟩=some (.pointer (some ⟨g.eb,0,none⟩))/\w'.cell? ⟨g.eb,2,none⟩=some (.pointer (some ⟨g.tb,0,none⟩)))
  (first
   |exact⟨xb1,co1⟩
   |exact AF.out _ _ q2)
  (first
   |(go_at_call 205;refine (RL.out _ (a0q w1)).mono ?_;rintro e w2 ⟨rfl,col2,q1,q2⟩))
 have HF:Hid (b4c w d r col g i hi w2):=by
  have t0:Step a5U w.heap.size col col w X:=Step.below XB.out;have t1:Step a5U w.heap.size col col w w1:=t0.trans ((Step.below (a0q X)).trans (DD.out.2.mono (fun c hc=>.inl hc) t0.size));have t2:Step a5U w.heap.size col col w w1.drew:=t1.trans (Step.below (a0q w1));exact⟨col2,q1,t2.trans (q2.mono (fun c hc=>.inr (.inr (.inr ⟨i,hc⟩))) t2.size)⟩
 clear q1 q2 RL DD E1
 go_wp2_with fail
 (try simp only[Exit.inBlock,Exit.then]);refine bodyPost_ret (results_none rfl _ _ _) rfl ?_
 exact⟨rfl,HF.out⟩
def b1j(w:World)(d:Nat)(r:Raw)(col:Nat->Option Col)(g:EG)(w':World):Prop :=
 ∃ col',DK w' d { r with eg:=a1F g.e.id r.eg,wl:=r.wl.filter fun b=>!(b==g.eb) } col'/\Step a5U w.heap.size col col' w w'
theorem b8h{r:Raw}(h:DK w d r col){g:EG}(hg:g∈r.eg)(hk:g.e.kind=3)(hid:0<=g.e.id/\g.e.id<=1000)(hwl:∀ b∈r.wl,∃ x∈r.eg,x.eb=b)(hwn:r.wl.length<=1000):
  Calls Tryz.prog 150 #[.pointer (some ⟨d,0,none⟩),.pointer (some ⟨g.eb,0,none⟩)] w fun e w'=>e=.returned (.tuple #[])/\b1j w d r col g w':=by
 have hX:Below w.heap.size w (w.alloc (.cells #[.pointer (some ⟨g.eb,0,none⟩)] 197)):=(zr _ _).alloc (zq _) _;have hx:=h.later hX;have xb:(w.alloc (.cells #[.pointer (some ⟨g.eb,0,none⟩)] 197)).cell? ⟨w.heap.size,0,none⟩=some (.pointer (some ⟨g.eb,0,none⟩)):=by simp
 have hxs:w.heap.size<(w.alloc (.cells #[.pointer (some ⟨g.eb,0,none⟩)] 197)).heap.size:=by simp
 have hcn:col w.heap.size=none:=by
  cases e:col w.heap.size with
  |none=>rfl
  |some c=>have:=h.lt _ _ e;omega
 have HX:=a0b (zA hX (zA hxs hcn));clear h hX hxs hcn
 go_enter Tryz.func150,Tryz.ntmps150
 go_upto_region 1 with fail
 generalize (w.alloc (.cells #[.pointer (some ⟨g.eb,0,none⟩)] 197))=X at hx xb HX ⊢;obtain⟨g1,g2,g3⟩:=hx.en g hg;obtain⟨m,f,a1,a2,a3,a4⟩:=hx.me;have c0:=g1.en.c0;have hkb:(g.e.kind != 3)=false:=by simpa using hk
 have kk:=a9g (n:=g.e.id) (by omega) (by omega);obtain⟨w1,hrun,p1,p2⟩:=(a3.block (w':=X.drew) rfl).dropRun b3h Tryz.underlying138 kk 0;have hxd:=hx.later (a0q X);have DD:=a0b (hxd.delE a1 a2 a4 g.e.id p1 p2);have EC:Hid (∀ x∈r.eg,col x.eb=some .ent):=fun x hx=>(hxd.en x hx).2.1
 have E1:Hid (∀ x∈r.eg,ENK w1 x):=(fun x hx=>DD.out.2.enk (hxd.en x hx).1 (.inl ⟨_,(hxd.en x hx).2.1,by simp⟩) (.inl ⟨_,(hxd.en x hx).2.2,by simp⟩));have ck1:=(E1.out g hg).k;have xb1:w1.cell? ⟨w.heap.size,0,none⟩=some (.pointer (some ⟨g.eb,0,none⟩)):=(zo (w:=X) (DD.out.2.blockN HX.out.2.1 HX.out.2.2 HX.out.2.1)).trans xb;clear hx hxd a3 p1 p2 a4
 go_big_region
 clear hrun xb a1 c0;have hN1:w.heap.size<w1.heap.size:=World.block_lt_of_cell? _ _ xb1;have NCOL:=a0b (zA HX.out.2.2 hN1);have XB:=a0b HX.out.1;clear g1 g2 g3 HX kk a2;obtain⟨v,c4,own,hvc⟩:=DD.out.1.wa;have f4:=DD.out.1.fz 4;have hvN:w.heap.size ∉ v.ownBlock.toList:=fun e=>by have:=hvc _ (Option.mem_toList.1 e);rw[NCOL.out.1] at this;cases this
 have hvd:d ∉ v.ownBlock.toList:=fun e=>by have:=hvc _ (Option.mem_toList.1 e);rw[DD.out.1.dc] at this;cases this
 have hve:∀ x∈r.eg,x.eb ∉ v.ownBlock.toList:=fun x hx e=>by
  have h1:=hvc _ (Option.mem_toList.1 e);have h2:=EC.out x hx;rw[h2] at h1;cases h1
 have DL:=a0b (c1d w.heap.size r.wl (fun b=>b==g.eb) v w1 (fun wx k b hb=>by
  obtain⟨x,hx,rfl⟩:=hwl b hb
  have b1:∃ cs,wx.heap[g.eb]?=some (.cells cs 200 (0,0)):=by
   obtain⟨cs,e⟩:=(E1.out g hg).bl;exact⟨cs,(k.block _ (E1.out g hg).lt (hve g hg)).trans e⟩
  have b2:∃ cs,wx.heap[x.eb]?=some (.cells cs 200 (0,0)):=by
   obtain⟨cs,e⟩:=(E1.out x hx).bl;exact⟨cs,(k.block _ (E1.out x hx).lt (hve x hx)).trans e⟩
  exact b8j w.heap.size g.eb x.eb wx (k.cell hvN xb1) b1 b2) own hwn)
 have VC:=a0b (zA hvc (zA hvN hvd));clear own hvc hvN hvd hve hwl
 go_wp2_with fail
 refine DL.out.mono ?_;rintro e w2 ⟨v',rfl,k1,k2,k3⟩
 obtain⟨va,vn,vc,rfl⟩:∃ a n cap,v'=.slice a n cap:=by
  rcases k2.2 with ⟨e,_⟩|⟨_,_,_,e,_⟩
  ·exact⟨_,_,_,e⟩
  ·exact⟨_,_,_,e⟩
 have c42:=k1.cell VC.out.2.2 c4;have f42:=(k1.frozen (o:=4) VC.out.2.2 (World.block_lt_of_cell? _ _ c4)).trans f4;have SW:=a0b (DD.out.1.setWait VC.out.1 k1 k2 (fun b hb=>.inl (by rw[<- k3];exact hb)));clear k1 k2 k3 DL c4 f4 E1
 have HF:Hid (b1j w d r col g (w2.setCell ⟨d,4,none⟩ (.slice va vn vc))):=by
  have t0:Step a5U w.heap.size col col w X:=Step.below XB.out;have t1:Step a5U w.heap.size col col w w1:=t0.trans ((Step.below (a0q X)).trans (DD.out.2.mono (fun c hc=>.inl hc) t0.size));obtain⟨col2,q1,q2⟩:=SW.out;exact⟨col2,q1,t1.trans (q2.mono (fun c hc=>by rcases hc with e|e;exact .inr (.inl e);exact .inr (.inr (.inl e))) t1.size)⟩
 clear DD SW VC NCOL XB
 go_wp2_with fail
 go_end0
 exact⟨rfl,HF.out⟩
open Desk (Ent St Ids kept a0C a0Q a1C a2e ofB a0y a2c Inv)
def atE(eg:List EG)(id:Int):Nat:=(a6U eg id).getD 0
theorem b2j{eg:List EG}(hn:(eg.map (·.e.id)).Nodup){g:EG}(hg:g∈eg):atE eg g.e.id=g.eb:=by unfold atE;rw[b3E hn hg];rfl
structure Of(s:St)(r:Raw):Prop where
 now:r.now=s.now
 given:r.given=s.given
 ts:r.tg.map (fun t=>(t.name,t.a0c))=s.ts
 es:r.eg.map (·.e)=s.es
 th:∀ (i:Nat) (h:i<r.tg.length),r.tg[i].A=a1C r.tg[i].name s.es/\a2e r.tg[i].name s.es (atE r.eg) r.tg[i].T
 tb:∀ g∈r.eg,∃ (i:Nat) (h:i<r.tg.length),r.tg[i].name=g.e.a0k/\g.tb=r.tg[i].tb
def Wl(r:Raw):Prop:=r.wl=(r.eg.filter fun g=>g.e.kind==3).map (·.eb)
def a9r(g:EG):Hp.Hi:=⟨g.e.a0Z,g.e.id,g.eb⟩
def Hl(r:Raw):Prop:=Hp.a6r r.hl/\r.hl.Perm ((r.eg.filter fun g=>g.e.kind != 1).map a9r)
theorem Of.mem{r:Raw}(h:Of s r){g:EG}(hg:g∈r.eg):g.e∈s.es:=by rw[<- h.es];exact List.mem_map.2 ⟨g,hg,rfl⟩
theorem Of.get{r:Raw}(h:Of s r){e:Ent}(he:e∈s.es):∃ g∈r.eg,g.e=e:=by rw[<- h.es] at he;exact List.mem_map.1 he
theorem Of.len{r:Raw}(h:Of s r):r.tg.length=s.ts.length:=by rw[<- h.ts];simp
theorem Of.tsAt{r:Raw}(h:Of s r)(hi:i<r.tg.length):s.ts[i]'(by rw[<- h.len];exact hi)=(r.tg[i].name,r.tg[i].a0c):=by
 have e:(r.tg.map fun t=>(t.name,t.a0c))[i]'(by simpa using hi)=(r.tg[i].name,r.tg[i].a0c):=by simp
 rw[<- e]
 congr 1
 exact h.ts.symm
theorem a8G(hp:ts.Pairwise fun t u=>a0y t.1 u.1=false):∀ {i:Nat}(hi:i<ts.length),Desk.a0h ts[i].1 ts=ts[i].2:=by
 induction ts with
 |nil=>intro i hi;simp at hi
 |cons t ts ih =>
  intro i hi;rw[List.pairwise_cons] at hp
  cases i with
  |zero=>simp[Desk.a0h,Desk.a2u]
  |succ i =>
   have hi':i<ts.length:=by simpa using hi
   have:=hp.1 ts[i] (zg hi');simp only[List.getElem_cons_succ,Desk.a0h,this];exact ih hp.2 hi'
theorem a3o(h:∀ t∈ts,t.1≠name):Desk.a0h name ts=0:=by
 induction ts with
 |nil=>rfl
 |cons t ts ih =>
  have h1:a0y t.1 name=false:=a3d.2 (h t (by simp));simp only[Desk.a0h,h1];exact ih (fun t ht=>h t (by simp[ht]))
theorem Of.names{r:Raw}(h:Of s r)(hp:s.ts.Pairwise fun t u=>a0y t.1 u.1=false)(hi:i<r.tg.length)(hj:j<r.tg.length)(e:r.tg[i].name=r.tg[j].name):i=j:=by
 have key:∀ {a b:Nat}(ha:a<r.tg.length) (hb:b<r.tg.length),a<b->r.tg[a].name≠r.tg[b].name:=by
  intro a b ha hb hab;have:=List.pairwise_iff_getElem.1 hp a b (by rw[<- h.len];exact ha) (by rw[<- h.len];exact hb) hab;rw[h.tsAt ha,h.tsAt hb] at this;exact a3d.1 this
 by_cases h1:i<j
 ·exact absurd e (key hi hj h1)
 ·by_cases h2:j<i
  ·exact absurd e.symm (key hj hi h2)
  ·omega
theorem a6b{L:List (Int × Int)}(h:a2c L):(L.map (·.1)).Nodup:=by
 unfold a2c at h;rw[List.nodup_iff_pairwise_ne,List.pairwise_map];exact h.imp (fun hab=>by omega)
theorem b3m{at_:Int->Nat}{T:Avl.S}{eb:Nat}{L:List (Int × Int)}(h:a2e name es at_ T)(hr:a2c L)(hno:∀ e∈es,ofB name e=true->e.id≠id)
  (hs:∀ z:Avl.It,(∃ e∈es',ofB name e=true/\∃ s∈e.a0e,z=⟨s.1,s.2,e.id,at' e.id⟩)↔(∃ e∈es,ofB name e=true/\∃ s∈e.a0e,z=⟨s.1,s.2,e.id,at_ e.id⟩)\/∃ s∈L,z=b2s id eb s):
  a2e name es' at' (a7e id eb T L)/\(∀ z∈Avl.a0w T,z.n=id->∀ s∈L,z.f≠s.1):=by
 have hcl:∀ z∈Avl.a0w T,z.n=id->∀ s∈L,z.f≠s.1:=by
  intro z hz e;obtain⟨x,hx,h1,s,_,rfl⟩:=(h.2 z).1 hz;exact absurd e (hno x hx h1)
 obtain⟨k1,_,k3,_⟩:=b4M id eb L T h.1 hcl (a6b hr);exact⟨⟨k1,fun z=>by rw[k3,h.2];exact (hs z).symm⟩,hcl⟩
theorem b8p{at_:Int->Nat}{T:Avl.S}{e0:Ent}(h:a2e name es at_ T)(hid:Ids es)(h0:e0∈es)(hat:∀ e∈es,e.id≠e0.id->at' e.id=at_ e.id):
  a2e name (kept e0.id es) at' (a4w e0.id T e0.a0e):=by
 obtain⟨k1,k2,_⟩:=b2d e0.id e0.a0e T h.1;refine⟨k1,fun z=>?_⟩;rw[k2,List.mem_filter,h.2];constructor
 ·rintro ⟨⟨e,he,h1,s,hs,rfl⟩,h2⟩
  have hne:e.id≠e0.id:=by
   intro e1;have:e=e0:=hid.one he h0 e1;subst this;have:=List.all_eq_true.1 h2 s hs;simp[Avl.a8n] at this
  exact⟨e,Desk.a4r.2 ⟨he,hne⟩,h1,s,hs,by rw[hat e he hne]⟩
 ·rintro ⟨e,he,h1,s,hs,rfl⟩;obtain⟨he,hne⟩:=Desk.a4r.1 he;refine⟨⟨e,he,h1,s,hs,by rw[hat e he hne]⟩,?_⟩;rw[List.all_eq_true];intro t _;simp[Avl.a8n,hne]
theorem a4b{at_:Int->Nat}{T:Avl.S}(h:a2e name es at_ T)(h1:∀ e,ofB name e=true->(e∈es'↔e∈es))(hat:∀ e∈es,ofB name e=true->at' e.id=at_ e.id):a2e name es' at' T:=by
 refine⟨h.1,fun z=>?_⟩;rw[h.2];constructor
 ·rintro ⟨e,he,h2,s,hs,rfl⟩;exact⟨e,(h1 e h2).2 he,h2,s,hs,by rw[hat e he h2]⟩
 ·rintro ⟨e,he,h2,s,hs,rfl⟩;have he':=(h1 e h2).1 he;exact⟨e,he',h2,s,hs,by rw[hat e he' h2]⟩
theorem Of.turn{r:Raw}(h:Of s r)(hp:s.ts.Pairwise fun t u=>a0y t.1 u.1=false)(hi:i<r.tg.length){eg':List EG}{A':List Bool->Int}{T':Avl.S}(he:eg'.map (·.e)=es')(h1:A'=a1C r.tg[i].name es')(h2:a2e r.tg[i].name es' (atE eg') T')
  (h3:∀ (name:ByteArray) (T:Avl.S),name≠r.tg[i].name->a1C name es'=a1C name s.es/\(a2e name s.es (atE r.eg) T->a2e name es' (atE eg') T)) (h4:∀ g∈eg',∃ (i:Nat) (h:i<r.tg.length),r.tg[i].name=g.e.a0k/\g.tb=r.tg[i].tb):
  Of { s with es:=es' } ({ r with eg:=eg' }.setT i (r.tg[i].with A' T')):=by
 have hlen:({ r with eg:=eg' }.setT i (r.tg[i].with A' T')).tg.length=r.tg.length:=by simp[Raw.setT]
 have hname:∀ (j:Nat) (hj:j<r.tg.length),(({ r with eg:=eg' }.setT i (r.tg[i].with A' T')).tg[j]'(by rw[hlen];exact hj)).name=r.tg[j].name/\(({ r with eg:=eg' }.setT i (r.tg[i].with A' T')).tg[j]'(by rw[hlen];exact hj)).tb=r.tg[j].tb:=by
  intro j hj
  by_cases e:i=j
  ·subst e;simp[Raw.setT,TG.with]
  ·simp[Raw.setT,e]
 refine⟨h.now,h.given,?_,he,fun j hj=>?_,fun g hg=>?_⟩
 ·rw[<- h.ts];show (r.tg.set i (r.tg[i].with A' T')).map _=_;rw[List.map_set];have:((r.tg[i].with A' T').name,(r.tg[i].with A' T').a0c)=(r.tg.map fun t=>(t.name,t.a0c))[i]'(by simpa using hi):=by simp[TG.with]
  rw[this,List.set_getElem_self]
 ·have hj':j<r.tg.length:=by rw[<- hlen];exact hj
  by_cases e:i=j
  ·subst e;have e2:({ r with eg:=eg' }.setT i (r.tg[i].with A' T')).tg[i]=r.tg[i].with A' T':=by simp[Raw.setT]
   rw[e2];exact⟨h1,h2⟩
  ·have e2:({ r with eg:=eg' }.setT i (r.tg[i].with A' T')).tg[j]=r.tg[j]:=by simp[Raw.setT,e]
   rw[e2];obtain⟨k1,k2⟩:=h3 r.tg[j].name r.tg[j].T (fun en=>e (h.names hp hi hj' en.symm));obtain⟨q1,q2⟩:=h.th j hj';exact⟨q1.trans k1.symm,k2 q2⟩
 ·obtain⟨j,hj,e1,e2⟩:=h4 g hg;exact⟨j,by rw[hlen];exact hj,(hname j hj).1.trans e1,e2.trans (hname j hj).2.symm⟩
end Go.Proofs.YtfigmlfdnickmaaGreatDoor
