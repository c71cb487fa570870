import Derived.Test.YtfigmlfdnickmaaGreatDoorL20
import Derived.BigQuiet
set_option maxRecDepth 100000
set_option maxHeartbeats 8000000
variable{given m now:Int}{P:Int->List Go.Value}{ts:List (ByteArray × Int)}{xs':List (Go.Proofs.YtfigmlfdnickmaaGreatDoor.Desk.Ent × Nat × Nat)}{F G K:List Nat}{B E Q b cap d e i j k n:Nat}{q:Nat × Go.Obj}{a0 a1 a2 a3 a4 a5 r u v:Go.Value}{W w w':Go.World}
namespace Go.Proofs.YtfigmlfdnickmaaGreatDoor
open Go.RowKit
theorem d1X{cs:Array Value}{t:TypeId}{q:Nat × Nat}(h:W.heap[b]?=some (.cells cs t q))(v:Value):(W.setCell ⟨b,i,none⟩ v).heap[b]?=some (.cells (cs.setIfInBounds i v) t q):=by
 obtain⟨hlt,hk⟩:=Array.getElem?_eq_some_iff.1 h;show (W.heap.modify b _)[b]?=_;rw[Array.getElem?_eq_getElem (by rw[Array.size_modify];exact hlt),Array.getElem_modify_self,hk];rfl
theorem d1L{z:Nat}{xs:List Value}(h:W.ownsRow B e z v n xs)(hb:v.ownBlock=some b)(o:Nat)(x:Value):(W.setCell ⟨b,o,none⟩ x).ownsRow B e z v n (xs.set o x):=by
 obtain⟨hlen,h2⟩:=h;rcases h2 with ⟨rfl,rfl⟩|⟨g,cap,cur,rfl,hB,hg,hnc,hcm,hcs,htk⟩
 ·cases hb
 ·have e1:g=b:=by simpa[Value.ownBlock] using hb
  subst e1;refine⟨by rw[List.length_set];exact hlen,.inr ⟨g,cap,cur.setIfInBounds o x,rfl,hB,d1X hg x,hnc,hcm,by rw[Array.size_setIfInBounds];exact hcs,?_⟩⟩;rw[Array.toList_setIfInBounds,List.take_set,htk]
theorem e9D:∀ (xs:List (Desk.Ent × Nat × Nat))(k:Nat)(hk:k<xs.length),((xs.flatMap c7a).set (k*6+1) (.int .i64 1)).set (k*6+5) (.int .i64 0)=(xs.set k (Desk.a0Q xs[k].1,xs[k].2)).flatMap c7a
 |[],k,hk=>absurd hk (by simp)
 |x :: r,0,_=>by simp[c7a,Desk.a0Q]
 |x :: r,k+1,hk=>by
  have ih:=e9D r k (by simpa using hk);have e1:(k+1)*6+1=(c7a x).length+(k*6+1):=by rw[d5V];omega
  have e2:(k+1)*6+5=(c7a x).length+(k*6+5):=by rw[d5V];omega
  rw[List.flatMap_cons,e1,e2,List.set_append,if_neg (by omega),Nat.add_sub_cancel_left,List.set_append,if_neg (by omega),Nat.add_sub_cancel_left,ih];rfl
theorem RD.a0C{xs:List (Desk.Ent × Nat × Nat)}(h:RD w d ts xs given now F)(hc:w.cell? ⟨d,1,none⟩=some (.slice (some ⟨E,0,none⟩) xs.length cap))(k:Nat)(hk:k<xs.length):
  RD ((w.setCell ⟨E,k*6+1,none⟩ (.int .i64 1)).setCell ⟨E,k*6+5,none⟩ (.int .i64 0)) d ts (xs.set k (Desk.a0Q xs[k].1,xs[k].2)) given now F/\E∈F/\E≠d:=by
 obtain⟨v1,a1,a2,a3⟩:=h.tv;obtain⟨v2,b1,b2,b3⟩:=h.ev;obtain rfl:v2=.slice (some ⟨E,0,none⟩) xs.length cap:=Option.some.inj (b1.symm.trans hc);obtain⟨hE,hEd⟩:=b3 E rfl;have k1:Off [E] w (w.setCell ⟨E,k*6+1,none⟩ (.int .i64 1)):=Off.set0 ..;have k2:Off [E] (w.setCell ⟨E,k*6+1,none⟩ (.int .i64 1)) ((w.setCell ⟨E,k*6+1,none⟩ (.int .i64 1)).setCell ⟨E,k*6+5,none⟩ (.int .i64 0)):=Off.set0 ..;have kk:=k1.trans k2;have hd:d ∉ [E]:=by simp;exact fun e=>hEd e.symm
 have p1:=d1L b2 (b:=E) rfl (k*6+1) (.int .i64 1);have p2:=d1L p1 (b:=E) rfl (k*6+5) (.int .i64 0);rw[e9D xs k hk] at p2
 have hne:v1.ownBlock≠some E:=by
  intro e;rcases b2.2 with ⟨hv,_⟩|⟨g,cp,cur,hv,_,hh,_⟩
  ·cases hv
  ·simp only[Value.slice.injEq,Option.some.injEq,Addr.mk.injEq] at hv;obtain⟨⟨rfl,_⟩,_⟩:=hv;exact c8L a2 hh (by decide) e
 refine⟨⟨⟨v1,kk.cell hd a1,a1i a2 kk (fun b hb=>by simp;intro e;subst e;exact hne hb),a3⟩,⟨_,kk.cell hd hc,by rw[List.length_set];exact p2,fun b hb=>b3 b hb⟩,kk.cell hd h.c2,kk.cell hd h.c3,fun o=>(kk.frozen hd (World.block_lt_of_cell? _ _ h.c2)).trans (h.fz o),h.dF,fun x hx=>?_⟩,hE,hEd⟩;obtain⟨j,hj,rfl⟩:=List.getElem_of_mem hx;rw[List.length_set] at hj;have key:∀ y∈xs,RSL ((w.setCell ⟨E,k*6+1,none⟩ (.int .i64 1)).setCell ⟨E,k*6+5,none⟩ (.int .i64 0)) y.2.1 y.1.a0e/\y.2.1 ∉ F/\y.2.1<((w.setCell ⟨E,k*6+1,none⟩ (.int .i64 1)).setCell ⟨E,k*6+5,none⟩ (.int .i64 0)).heap.size:=fun y hy=>⟨(h.sp y hy).1.off kk (by simp;intro e;exact (h.sp y hy).2.1 (e ▸ hE)),(h.sp y hy).2.1,Nat.lt_of_lt_of_le (h.sp y hy).2.2 kk.size⟩
 rw[List.getElem_set]
 split
 ·exact key xs[k] (zg hk)
 ·exact key xs[j] (zg hj)
theorem DD.a0C{s:Desk.St}{xs:List (Desk.Ent × Nat × Nat)}(h:DD w d s xs F){a:Option Addr}(hr:ER w d E cap a xs)(hk:k<xs.length){es':List Desk.Ent}(he:s.es.set k (Desk.a0Q xs[k].1)=es'):
  DD ((w.setCell ⟨E,k*6+1,none⟩ (.int .i64 1)).setCell ⟨E,k*6+5,none⟩ (.int .i64 0)) d { s with es:=es' } (xs.set k (Desk.a0Q xs[k].1,xs[k].2)) F/\E∈F/\E≠d:=by
 obtain rfl:=hr.a k hk;obtain⟨h1,h2⟩:=h.rd.a0C hr.c k hk;refine⟨⟨h1,?_,fun x hx=>zL (h.lt x hx) (Nat.le_trans (Off.set0 E w _ _).size (Off.set0 E _ _ _).size),h.tl,?_,?_⟩,h2⟩
 ·show _=es';rw[List.map_set,h.es,he]
 ·show es'.length<=60;rw[<- he,List.length_set];exact h.el
 ·intro e hx;rw[<- he] at hx;rcases List.mem_or_eq_of_mem_set hx with hx|rfl
  ·exact h.en e hx
  ·exact (h.en _ (h.es ▸ List.mem_map.2 ⟨_,List.getElem_mem hk,rfl⟩)).book
def f5U(x:Desk.Ent × Nat × Nat):Obj:=.cells #[.int .i64 x.1.id,.int .i64 x.1.kind,.string x.1.a0k,.int .i64 x.1.a0c,.slice (some ⟨x.2.1,0,none⟩) x.1.a0e.length x.2.2,.int .i64 x.1.a0Z] 58
def g0c(ys xs:List (Desk.Ent × Nat × Nat)):Prop:=∀ x∈ys,∃ z∈xs,x.2.1=z.2.1
theorem a6g(ts:List (ByteArray × Int)):∀ (r d:List Desk.Ent),(Desk.a0O ts d r).1.length=d.length+r.length/\(Desk.a0O ts d r).2.length<=r.length
 |[],d=>by simp[Desk.a0O]
 |e :: r,d=>by
  have a:=a6g ts r (d++[Desk.a0Q e]);have b:=a6g ts r (d++[e]);rw[Desk.a0O];simp only[List.length_append,List.length_cons,List.length_nil] at a b ⊢
  split
  ·simp only[List.length_cons];omega
  ·omega
theorem f2a{s:Desk.St}{xs:List (Desk.Ent × Nat × Nat)}(h:DD w d s xs F):
  Calls Tryz.prog 118 #[.pointer (some ⟨d,0,none⟩)] w fun e w'=>∃ v,e=.returned v/\w'.ownsRow w.heap.size 3 1 v (Desk.a0R s.ts s.es).2.length ((Desk.a0R s.ts s.es).2.map (Value.int .i64))/\(∃ xs',DD w' d { s with es:=(Desk.a0R s.ts s.es).1 } xs' F/\g0c xs' xs)/\Off F w w':=by
 obtain⟨i0,hi0,hz0,hz1,hz2⟩:=info_parts b1S;have H:=a0b h;have hel:=h.el;clear h
 go_enter Tryz.func118,Tryz.ntmps118
 go_wp2_with fail
 go_loopw [3,4,5,6] (fun v i _ _ wx=>∃ k:Nat,k<=s.es.length/\i=.int .i64 k/\∃ (done:List Desk.Ent) (got:List Int) (ys:List (Desk.Ent × Nat × Nat)),done.length=k/\(∀ y∈ys,∃ z∈xs,y.2.1=z.2.1)/\DD wx d { s with es:=done++s.es.drop k } ys F/\wx.ownsRow w.heap.size 3 1 v got.length (got.map (Value.int .i64))/\got.length<=k/\Desk.a0R s.ts s.es=((Desk.a0O s.ts done (s.es.drop k)).1,got++(Desk.a0O s.ts done (s.es.drop k)).2)/\Off F w wx) (fun _ i _ _ _=>s.es.length-(intOf i).toNat)
 case atStart=>exact⟨0,Nat.zero_le _,rfl,[],[],xs,rfl,fun y hy=>⟨y,hy,rfl⟩,H.out,World.ownsRow_nil _ _ _ _,Nat.zero_le _,by simp[Desk.a0R],Off.refl _ _⟩
 case round =>
  obtain⟨k,hk,rfl,done,got,ys,hdl,hsp,hd,hown,hgl,hgs,hof⟩:=hrel;obtain⟨a,cap,E,hr⟩:=hd.er;have cc:=hr.c;have hyl:ys.length=s.es.length:=by have:=hd.len;simp only[List.length_append,List.length_drop] at this;omega
  rw[hyl] at cc;have HD:=a0b (zA hd (zA hr (zA hown (zA hgs hof))));have hsz:=hof.size
  by_cases hlt:k<s.es.length
  ·have hky:k<ys.length:=by omega
   obtain rfl:=hr.a k hky;have r0:=hr.r k hky;have c0:=r0.c0;have c1:=r0.c1;have c2:=r0.c2;have c3:=r0.c3;have c4:=r0.c4;have c5:=r0.c5;have hi:(k:Int)<(s.es.length:Int):=by omega
   have hdr:=List.drop_eq_getElem_cons hlt
   have hye:ys[k].1=s.es[k]:=by
    have e1:(ys.map (·.1))[k]'(by simpa using hky)=ys[k].1:=List.getElem_map ..
    have e2:(ys.map (·.1))[k]?=some s.es[k]:=by rw[hd.es];show (done++s.es.drop k)[k]?=_;rw[List.getElem?_append_right (by omega),hdl,Nat.sub_self,hdr];rfl
    rw[List.getElem?_eq_getElem (by simpa using hky),Option.some.injEq] at e2;exact e1.symm.trans e2
   have heb:=hd.en s.es[k] (by show _∈done++s.es.drop k;rw[hdr];exact List.mem_append_right _ (List.mem_cons_self ..));have HY:=a0b (zA hye (zA hdr heb));have fE:=fun o=>hr.f o (by omega)
   clear hd hr hown hgs hof r0 hye hdr heb
   have hnext:∀ (e:Desk.Ent) (g2:List Int),Desk.a0O s.ts done (s.es[k] :: s.es.drop (k+1))=((Desk.a0O s.ts (done++[e]) (s.es.drop (k+1))).1,g2++(Desk.a0O s.ts (done++[e]) (s.es.drop (k+1))).2)->Desk.a0R s.ts s.es=((Desk.a0O s.ts (done++[e]) (s.es.drop (k+1))).1,(got++g2)++(Desk.a0O s.ts (done++[e]) (s.es.drop (k+1))).2):=by
    intro e g2 h1;have h2:=HD.out.2.2.2.1;rw[HY.out.2.1,h1] at h2;rw[h2];simp
   have NX:=a0b hnext;clear hnext
   have hstay:Desk.a0O s.ts done (s.es[k] :: s.es.drop (k+1))=Desk.a0O s.ts (done++[s.es[k]]) (s.es.drop (k+1))->∀ wx,Below wr.heap.size wr wx->∃ k_1:Nat,k_1<=s.es.length/\(Value.int .i64 ((k:Int)+1))=.int .i64 k_1/\∃ (done:List Desk.Ent) (got:List Int) (ys:List (Desk.Ent × Nat × Nat)),done.length=k_1/\(∀ y∈ys,∃ z∈xs,y.2.1=z.2.1)/\DD wx d { s with es:=done++s.es.drop k_1 } ys F/\wx.ownsRow w.heap.size 3 1 u3 got.length (got.map (Value.int .i64))/\got.length<=k_1/\Desk.a0R s.ts s.es=((Desk.a0O s.ts done (s.es.drop k_1)).1,got++(Desk.a0O s.ts done (s.es.drop k_1)).2)/\Off F w wx:=by
    intro h1 wx hb;refine⟨k+1,by omega,rfl,done++[s.es[k]],got,ys,by simp[hdl],hsp,?_,a1g HD.out.2.2.1 hb,by omega,by have:=NX.out s.es[k] [] (by rw[h1];simp);simpa using this,HD.out.2.2.2.2.trans (Off.of_below hb)⟩;have:=HD.out.1.later hb;rw[HY.out.2.1] at this
    simpa using this
   have ST:=a0b hstay;clear hstay
   by_cases hk3:s.es[k].kind=3
   ·have hq:(ys[k].1.kind != 3)=false:=by rw[HY.out.1];simp[hk3]
    have hX:Below wr.heap.size wr (wr.alloc (f5U ys[k])):=(zr _ _).alloc (zq _) _;have hE:(wr.alloc (f5U ys[k])).heap[wr.heap.size]?=some (f5U ys[k]):=a0p _ _;have RS:=a0b (HD.out.2.1.r k hky).sl;have K3:=a0b hk3;clear hk3
    go_upto_region 7 with fail
    change Code.wp _ _ _ _ (wr.alloc (f5U ys[k]));have HX:=a0b (zA hX hE);have f0:=e0T hE;have f2:=e0S hE;have f3:=e0R hE;have f4:=e0P hE;have cX:=a0a hX cc;have x1:=a0a hX c1;have x5:=a0a hX c5;clear hX hE c0 c2 c3 c4 c5 cc;generalize wr.alloc (f5U ys[k])=X at *;have DX:=a0b (HD.out.1.later HX.out.1);have FT:=a0b (DX.out.fits (u:=ys[k].1.a0c) (cb:=ys[k].2.2) ys[k].1.a0k (RS.out.later HX.out.1) (by rw[HY.out.1];have:=HY.out.2.2.sl;omega) (by rw[HY.out.1];have:=HY.out.2.2.u0;omega) (by rw[HY.out.1];exact HY.out.2.2.u1))
    go_wp2_with fail
    refine FT.out.mono ?_;rintro e w4 ⟨rfl,hb4⟩;have HB:=a0b hb4;have B4:=a0b (a0j HX.out.1 hb4 (zq _));have e4:Hid (s.ts=s.ts/\done++s.es.drop k=done++s.es[k] :: s.es.drop (k+1)):=⟨rfl,by rw[HY.out.2.1]⟩
    cases hf:Desk.a1e s.ts (done++s.es.drop k) ys[k].1.a0k ys[k].1.a0c ys[k].1.a0e
    ·have hg:Hid (Desk.a0O s.ts done (s.es[k] :: s.es.drop (k+1))=Desk.a0O s.ts (done++[s.es[k]]) (s.es.drop (k+1))):=by
      show _=_;rw[Desk.a0O,if_neg];rintro ⟨_,h2⟩;rw[HY.out.1,e4.out.2,h2] at hf
      cases hf
     clear hf hb4
     go_wp2_with fail
     go_roundw
     case rel=>exact ST.out hg.out _ B4.out
     case measure=>simp[intOf];omega
    ·have hg:Hid (Desk.a0O s.ts done (s.es[k] :: s.es.drop (k+1))=((Desk.a0O s.ts (done++[Desk.a0Q s.es[k]]) (s.es.drop (k+1))).1,[s.es[k].id]++(Desk.a0O s.ts (done++[Desk.a0Q s.es[k]]) (s.es.drop (k+1))).2)):=by
      show _=_;rw[Desk.a0O,if_pos ⟨K3.out,by rw[HY.out.1,e4.out.2] at hf;exact hf⟩];rfl
     have f0:=a0a hb4 f0;have cX:=a0a hb4 cX;have x1:=a0a hb4 x1;have x5:=a0a hb4 x5;have hN:wr.heap.size<w4.heap.size:=World.block_lt_of_cell? _ _ f0;have R4:=a0b (HD.out.2.1.later B4.out);have gE:=fun o=>R4.out.f o (by omega)
     have hEw:E<wr.heap.size:=World.block_lt_of_cell? _ _ c1;have hEN:E≠wr.heap.size:=by omega
     clear hf hb4 fE
     have bk:=(HD.out.1.later B4.out).a0C R4.out hky (es':=(done++[Desk.a0Q s.es[k]])++s.es.drop (k+1)) (by
      show (done++s.es.drop k).set k _=_
      rw[e4.out.2,HY.out.1,List.set_append,if_neg (by omega),hdl,Nat.sub_self,List.append_assoc];rfl)
     have BK:=a0b bk;clear bk;have hEd:=BK.out.2.2;have kE:Off F w4 ((w4.setCell ⟨E,k*6+1,none⟩ (.int .i64 1)).setCell ⟨E,k*6+5,none⟩ (.int .i64 0)):=((Off.refl F w4).setCell (.inl BK.out.2.1) _ _).setCell (.inl BK.out.2.1) _ _;have g0:=(zS _ ⟨E,k*6+5,none⟩ ⟨wr.heap.size,0,none⟩ (.int .i64 0) (by simp)).trans ((zS w4 ⟨E,k*6+1,none⟩ ⟨wr.heap.size,0,none⟩ (.int .i64 1) (by simp)).trans f0);have oz:=a1i (a1g HD.out.2.2.1 B4.out) kE (fun b hb hF=>by have:=H.out.lt b hF;have:=d0G HD.out.2.2.1 hb;omega);have fz:=(HD.out.2.2.2.2.trans (Off.of_below B4.out)).trans kE;have HZ:=a0b (zA BK.out.1 (zA oz fz));have hZ:=fz.size;clear kE oz fz BK
     go_upto_region 11 with fail
     generalize (World.setCell (World.setCell w4 _ _) _ _)=Z at *
     go_wp2_with (first|(at_builtin;refine g3H rfl _ _ rfl HZ.out.2.1 ys[k].1.id rfl rfl (by omega) hZ ?_;intro v' w' ho1 hk1))
     go_roundw
     case rel =>
      have h1:∀ b,u3.ownBlock=some b->w.heap.size<=b:=fun b hb=>d0G HD.out.2.2.1 hb
      refine⟨k+1,by omega,by go_num,done++[Desk.a0Q s.es[k]],got++[ys[k].1.id],_,by simp[hdl],fun y hy=>?_,HZ.out.1.off hk1 (fun x hx e=>?_) (fun y hy e=>?_),ho1,by simp;omega,by rw[HY.out.1];exact NX.out _ _ hg.out,HZ.out.2.2.trans' hk1 (fun x hx=>.inr (h1 x (by simpa using hx)))⟩
      ·rcases List.mem_or_eq_of_mem_set hy with hy|rfl
       ·exact hsp y hy
       ·exact hsp ys[k] (zg hky)
      ·have:=h1 x (by simpa using e);have:=H.out.lt x hx;omega
      ·have:=h1 y.2.1 (by simpa using e)
       have:∃ z∈xs,y.2.1=z.2.1:=by
        rcases List.mem_or_eq_of_mem_set hy with hy|rfl
        ·exact hsp y hy
        ·exact hsp ys[k] (zg hky)
       obtain⟨z,hz,e⟩:=this;have:=(H.out.rd.sp z hz).2.2;omega
     case measure=>simp[intOf];omega
   ·have hq:(ys[k].1.kind != 3)=true:=by rw[HY.out.1];simp[hk3]
    have hg:Hid (Desk.a0O s.ts done (s.es[k] :: s.es.drop (k+1))=Desk.a0O s.ts (done++[s.es[k]]) (s.es.drop (k+1))):=by
     show _=_;rw[Desk.a0O,if_neg (fun h=>hk3 h.1)]
    clear hk3
    go_wp2_with fail
    go_roundw
    case rel=>exact ST.out hg.out _ ((zr _ _).alloc (zq _) _)
    case measure=>simp[intOf];omega
  ·have hi:¬ (k:Int)<(s.es.length:Int):=by omega
   have e:s.es.drop k=[]:=List.drop_eq_nil_of_le (by omega)
   have HG:Hid (Desk.a0R s.ts s.es=(done,got)):=by
    have:=HD.out.2.2.2.1;rw[e] at this;exact this.trans (by simp[Desk.a0O])
   have HF:Hid (DD wr d { s with es:=done } ys F):=by
    have:=HD.out.1;rw[e,List.append_nil] at this;exact this
   clear hd hr hown hgs hof
   go_wp2_with fail
   go_ret;rw[HG.out];exact⟨u3,rfl,HD.out.2.2.1,⟨ys,HF.out,hsp⟩,HD.out.2.2.2.2⟩
open Desk (Ent St Rep a0g)
structure e2L(w:World)(v1 v2 v4:Value)(p:Rep):Prop where
 en:∃ l,EV w v1 l/\l.map (·.1)=p.entries
 da:NV w v2 p.days
 ed:NV w v4 p.ended
def d1S(w:World)(d:Nat)(F:List Nat)(xs:List (Ent × Nat × Nat))(q:St × Rep)(e:Ending)(w':World):Prop :=
 ∃ (v1 v2 v3 v4:Value) (xs':List (Ent × Nat × Nat)) (F' G:List Nat),e=.returned (a0s q.2.err 0 q.2.n v1 v2 v3 v4)/\(∀ w2,(∀ b∈G,w2.heap[b]?=w'.heap[b]?)->e2L w2 v1 v2 v4 q.2) /\
  w'.ownsRow w.heap.size 3 1 v3 q.2.granted.length (q.2.granted.map (Value.int .i64))/\DD w' d q.1 xs' F'/\(∀ k∈F',k∈F\/w.heap.size<=k)/\Off F w w' /\
  (∀ b∈G,w.heap.size<=b/\b<w'.heap.size/\b ∉ F'/\v3.ownBlock≠some b)/\(∀ b,v3.ownBlock=some b->b ∉ F'/\∀ x∈xs',x.2.1≠b)/\∀ x∈xs',(∃ y∈xs,x.2.1=y.2.1)\/w.heap.size<=x.2.1
abbrev c7N:Value:=.slice none 0 0
theorem NV.nil(w:World):NV w c7N []:=⟨⟨_,_,rfl⟩,fun k hk=>by simp at hk⟩
theorem EV.nil(w:World):EV w c7N []:=⟨⟨_,_,rfl⟩,fun k hk=>by simp at hk,by simp⟩
theorem e2L.nil(w:World){e a n:Int}{g:List Int}:e2L w c7N c7N c7N ⟨e,a,n,[],[],g,[]⟩:=⟨⟨[],EV.nil w,rfl⟩,NV.nil w,NV.nil w⟩
variable {w Z:World}{d:Nat}{s s':St}{xs:List (Ent × Nat × Nat)}{F F':List Nat}
theorem DD.plain(h:DD Z d s' xs' F')(hF:∀ k∈F',k∈F\/w.heap.size<=k)(k:Off F w Z)(hs:∀ x∈xs',(∃ y∈xs,x.2.1=y.2.1)\/w.heap.size<=x.2.1)(er n:Int):d1S w d F xs (s',⟨er,0,n,[],[],[],[]⟩) (.returned (a0s er 0 n c7N c7N c7N c7N)) Z :=
 ⟨c7N,c7N,c7N,c7N,xs',F',[],rfl,fun w2 _=>e2L.nil w2,World.ownsRow_nil _ _ _ _,h,hF,k,by simp,fun b hb=>by simp[Value.ownBlock] at hb,hs⟩
theorem DD.put7(h:DD Z d s' xs' F')(hF:∀ k∈F',k∈F\/w.heap.size<=k)(k:Off F w Z)(hQ:w.heap.size<=Q)(hQF:Q ∉ F')(hQs:∀ x∈xs',x.2.1≠Q)(hs:∀ x∈xs',(∃ y∈xs,x.2.1=y.2.1)\/w.heap.size<=x.2.1)(er n:Int)(a b c e f g i:Value):d1S w d F xs (s',⟨er,0,n,[],[],[],[]⟩) (.returned (a0s er 0 n c7N c7N c7N c7N)) (a2w Z Q a b c e f g i) :=
 (h.off (a2R Z Q a b c e f g i) (fun x hx e=>hQF (by simp at e;exact e ▸ hx)) (fun x hx e=>hQs x hx (by simpa using e))).plain hF (k.trans' (a2R ..) (fun x hx=>by simp at hx;exact .inr (hx ▸ hQ))) hs er n
theorem DD.said(h:DD w d s xs F)(k:Below w.heap.size w Z)(hQ:w.heap.size<=Q)(er n:Int)(a b c e f g i:Value):d1S w d F xs (s,⟨er,0,n,[],[],[],[]⟩) (.returned (a0s er 0 n c7N c7N c7N c7N)) (a2w Z Q a b c e f g i) :=
 (h.later k).put7 (fun _ hx=>.inl hx) (Off.of_below k) hQ (fun hx=>by have:=h.lt Q hx;omega) (fun x hx e=>by have:=(h.rd.sp x hx).2.2;omega) (fun x hx=>.inl ⟨x,hx,rfl⟩) er n a b c e f g i
theorem DD.fresh(h:DD w d s xs F){ys:List (Ent × Nat × Nat)}{es':List Ent}(ho:Z.ownsRow B 58 6 v ys.length (ys.flatMap c7a))(hB:w.heap.size<=B)(k:Below w.heap.size w Z)(hs:∀ y∈ys,y∈xs)(hl:ys.length<=xs.length)(he:ys.map (·.1)=es'):
  DD (Z.setCell ⟨d,1,none⟩ v) d { s with es:=es' } ys (v.ownBlock.toList++F):=by
 have hZ:=h.later k;have hb:∀ b,v.ownBlock=some b->w.heap.size<=b/\b<Z.heap.size:=fun b hb=>⟨Nat.le_trans hB (d0G ho hb),c7O ho hb⟩
 have hd:d<w.heap.size:=h.lt d h.rd.dF;have kd:Off [d] Z (Z.setCell ⟨d,1,none⟩ v):=Off.set0 ..;obtain⟨v1,a1,a2,a3⟩:=hZ.rd.tv;obtain⟨v2,b1,b2,b3⟩:=hZ.rd.ev
 refine⟨⟨⟨v1,(zS _ _ _ _ (by simp)).trans a1,a1i a2 kd (fun b hb e=>(a3 b hb).2 (by simpa using e)),fun b hb=>⟨List.mem_append_right _ (a3 b hb).1,(a3 b hb).2⟩⟩,⟨v,World.cell?_setCell_same _ _ _ b1,d7F (a1i ho kd (fun b hq e=>by have:=(hb b hq).1;simp at e;omega)) (zN _),fun b hq=>⟨by simp[hq],fun e=>by have:=(hb b hq).1;omega⟩⟩,
  (zS _ _ _ _ (by simp)).trans hZ.rd.c2,(zS _ _ _ _ (by simp)).trans hZ.rd.c3,fun o=>(zF ..).trans (hZ.rd.fz o),List.mem_append_right _ h.rd.dF,fun x hx=>?_⟩,he,fun x hx=>?_,h.tl,?_,fun e hx=>?_⟩
 ·obtain⟨x1,x2,x3⟩:=h.rd.sp x (hs x hx);refine⟨((x1.later k).off kd (by simp;rintro rfl;exact x2 h.rd.dF)),fun e=>?_,Nat.lt_of_lt_of_le (zL x3 k.size) kd.size⟩;rcases List.mem_append.1 e with e|e
  ·have:=(hb _ (by simpa using e)).1;omega
  ·exact x2 e
 ·refine Nat.lt_of_lt_of_le ?_ kd.size;rcases List.mem_append.1 hx with e|e
  ·exact (hb x (by simpa using e)).2
  ·exact hZ.lt x e
 ·show es'.length<=60;have:=h.len;have:=h.el;rw[<- he,List.length_map];omega
 ·rw[<- he] at hx;obtain⟨y,hy,rfl⟩:=List.mem_map.1 hx;exact h.en _ (h.es ▸ List.mem_map.2 ⟨y,hs y hy,rfl⟩)
theorem Off.blw(h:Off [] w w'):Below w.heap.size w w':=⟨h.os,h.tape,h.output,h.size,fun k hk=>h.block k hk (by simp)⟩
theorem g2l{ops:Array Oper}{rest:List Oper}{o:Oper}{a:Act}{Q:Exit->Act->World->Prop}(hgd:o.guard=none)(x y:Operand)(ho:o.op=.call { callee:=.builtin .append,args:=#[x,y],argTypes:=#[56,56] }){l:List (Int × Int)}(hown:W.ownsRow B 60 2 v l.length (l.flatMap d0k))(z1 z2:Int){ty:TypeId}{mk:Nat × Nat}(hs:a.eval x=v)(hx:a.eval y=.slice (some ⟨W.heap.size,0,none⟩) 1 1)(hl:l.length<=1000000)(hB:B<=W.heap.size)
  (h:∀ g cap w',w'.ownsRow B 60 2 (.slice (some ⟨g,0,none⟩) (l.length+1) cap) (l.length+1) ((l++[(z1,z2)]).flatMap d0k)->Off v.ownBlock.toList W w'->wpList Tryz.prog ops Q rest (a.put o.dst (.slice (some ⟨g,0,none⟩) (l.length+1) cap)) w'):
  wpList Tryz.prog ops Q (o :: rest) a (W.alloc (.cells #[.int .i64 z1,.int .i64 z2] ty mk)):=by
 obtain⟨i0,hi0,hz0,hz1,hz2⟩:=info_parts b6Q;refine wpList_append_own _ hgd x y 56 ho B 60 i0 _ 2 16 Tryz.underlying56 hi0 hz0 hz1 hz2 rfl (by decide) v l.length (l.flatMap d0k) hs (hown.alloc _) ⟨W.heap.size,0,none⟩ 1 1 [.int .i64 z1,.int .i64 z2] hx rfl (World.news_of_block (cs:=#[.int .i64 z1,.int .i64 z2]) (a0p W _)) (by simp[Value.oneCell']) (by unfold maxLen;omega) (by omega) (by simp;omega) ?_;intro v' w' h1 h2 _;rcases h1.2 with ⟨_,h0⟩|⟨g,cap,_,rfl,_⟩
 ·omega
 ·refine h g cap w' (by rw[List.flatMap_append];exact h1) (((Off.refl _ W).alloc _).grown h2 (fun k hk=>.inl (by simp[hk])))
theorem RD.trim(h:RD w d ts xs given now F):RD w d ts xs given now (F.filter fun k=>decide (k<w.heap.size)):=by
 obtain⟨v1,a1,a2,a3⟩:=h.tv;obtain⟨v2,b1,b2,b3⟩:=h.ev;refine⟨⟨v1,a1,a2,fun k hk=>⟨List.mem_filter.2 ⟨(a3 k hk).1,by simpa using c7O a2 hk⟩,(a3 k hk).2⟩⟩,⟨v2,b1,b2,fun k hk=>⟨List.mem_filter.2 ⟨(b3 k hk).1,by simpa using c7O b2 hk⟩,(b3 k hk).2⟩⟩,h.c2,h.c3,h.fz,List.mem_filter.2 ⟨h.dF,?_⟩,fun x hx=>⟨(h.sp x hx).1,fun e=>(h.sp x hx).2.1 (List.mem_filter.1 e).1,(h.sp x hx).2.2⟩⟩;have:=World.block_lt_of_cell? _ _ h.c2
 simpa using this
theorem DD.a5d{Y:World}(h:DD Y d s xs F){x:Ent × Nat × Nat}(hx:EB x.1)(hl:s.es.length<60)(k:g3V Y d s.ts (xs++[({ x.1 with id:=s.given+1 },x.2)]) (s.given+1) s.now F Z):
  ∃ F',DD Z d (Desk.a2t s x.1).1 (xs++[({ x.1 with id:=s.given+1 },x.2)]) F'/\(∀ k∈F',k∈F\/Y.heap.size<=k)/\Off F Y Z:=by
 obtain⟨F',h1,h2,h3⟩:=k;refine⟨_,⟨h1.trim,?_,fun k hk=>by simpa using (List.mem_filter.1 hk).2,h.tl,?_,fun e he=>?_⟩,fun k hk=>h2 k (List.mem_filter.1 hk).1,h3⟩
 ·simp[Desk.a2t,h.es]
 ·simp[Desk.a2t];omega
 ·simp only[Desk.a2t,List.mem_append,List.mem_singleton] at he;rcases he with he|rfl
  ·exact h.en e he
  ·exact⟨hx.u0,hx.u1,hx.sl,hx.s0,hx.so⟩
structure KP(w wx:World)(L:List (Nat × Obj)):Prop where
 bl:Below w.heap.size w wx
 kb:∀ q∈L,wx.heap[q.1]?=some q.2
 lo:∀ q∈L,w.heap.size<=q.1
 nd:(L.map (·.1)).Nodup
variable {w wx wy:World}{L L':List (Nat × Obj)}{b:Nat}{o:Obj}{cs:Array Value}{t:TypeId}{m:Nat × Nat}
theorem KP.nil(w:World):KP w w []:=⟨zr _ _,by simp,by simp,by simp⟩
theorem KP.lt(h:KP w wx L)(hq:q∈L):q.1<wx.heap.size:=(Array.getElem?_eq_some_iff.1 (h.kb q hq)).1
theorem KP.later(h:KP w wx L)(k:Below wx.heap.size wx wy):KP w wy L:=⟨a0j h.bl k (zq _),fun q hq=>(k.block _ (h.lt hq)).trans (h.kb q hq),h.lo,h.nd⟩
theorem KP.alloc(h:KP w wx L)(o:Obj):KP w (wx.alloc o) ((wx.heap.size,o) :: L):=by
 have k:=h.later ((zr _ _).alloc (zq _) o);refine⟨k.bl,fun q hq=>?_,fun q hq=>?_,?_⟩
 ·rcases List.mem_cons.1 hq with rfl|hq
  ·exact a0p _ _
  ·exact k.kb q hq
 ·rcases List.mem_cons.1 hq with rfl|hq
  ·exact h.bl.size
  ·exact h.lo q hq
 ·rw[List.map_cons,List.nodup_cons];refine⟨fun e=>?_,h.nd⟩;obtain⟨q,hq,e⟩:=List.mem_map.1 e;have:=h.lt hq;omega
theorem KP.put(h:KP w wx ((b,.cells cs t m) :: L))(i:Nat)(v:Value):KP w (wx.setCell ⟨b,i,none⟩ v) ((b,.cells (cs.setIfInBounds i v) t m) :: L):=by
 have k:Off [b] wx (wx.setCell ⟨b,i,none⟩ v):=Off.set0 ..;have hb:=h.lo _ (List.mem_cons_self ..);have nd:=h.nd;rw[List.map_cons,List.nodup_cons] at nd;refine⟨h.bl.setCell hb v,fun q hq=>?_,fun q hq=>?_,h.nd⟩
 ·rcases List.mem_cons.1 hq with rfl|hq
  ·exact d1X (h.kb _ (List.mem_cons_self ..)) v
  ·refine (k.block _ (h.lt (List.mem_cons_of_mem _ hq)) (fun e=>nd.1 (List.mem_map.2 ⟨q,hq,?_⟩))).trans (h.kb q (List.mem_cons_of_mem _ hq))
   simpa using e
 ·rcases List.mem_cons.1 hq with rfl|hq
  ·exact hb
  ·exact h.lo q (List.mem_cons_of_mem _ hq)
theorem KP.perm(h:KP w wx L)(p:L.Perm L'):KP w wx L':=⟨h.bl,fun q hq=>h.kb q (p.mem_iff.2 hq),fun q hq=>h.lo q (p.mem_iff.2 hq),(p.map _).nodup_iff.1 h.nd⟩
theorem KP.less(h:KP w wx L)(p:L'.Sublist L):KP w wx L':=⟨h.bl,fun q hq=>h.kb q (p.subset hq),fun q hq=>h.lo q (p.subset hq),h.nd.sublist (p.map _)⟩
theorem KP.swap{r:Nat × Obj}(h:KP w wx (q :: r :: L)):KP w wx (r :: q :: L):=h.perm (List.Perm.swap ..)
theorem KP.cell(h:KP w wx L)(hq:(b,Obj.cells cs t m)∈L)(i:Nat)(hv:cs[i]?=some v):wx.cell? ⟨b,i,none⟩=some v:=by
 have:=h.kb _ hq;simp only at this;simp[World.cell?,this,hv]
theorem KP.frozen(h:KP w wx L)(hq:(b,Obj.cells cs t)∈L)(i:Nat):wx.frozen? ⟨b,i,none⟩=false:=by
 have:=h.kb _ hq;simp only at this;simp[World.frozen?,this]
theorem KP.g0s(h:KP w wx ((b,.cells #[a0,a1,a2,a3,a4,a5] t m) :: L))(v0 v1 v2 v3 v4 v5:Value):KP w ((((((wx.setCell ⟨b,0,none⟩ v0).setCell ⟨b,1,none⟩ v1).setCell ⟨b,2,none⟩ v2).setCell ⟨b,3,none⟩ v3).setCell ⟨b,4,none⟩ v4).setCell ⟨b,5,none⟩ v5) ((b,.cells #[v0,v1,v2,v3,v4,v5] t m) :: L):=by
 have:=(((((h.put 0 v0).put 1 v1).put 2 v2).put 3 v3).put 4 v4).put 5 v5
 simpa using this
theorem KP.hc(h:KP w wx ((b,.cells cs t m) :: L))(i:Nat)(hv:cs[i]?=some v):wx.cell? ⟨b,i,none⟩=some v:=h.cell (List.mem_cons_self ..) i hv
theorem KP.hf(h:KP w wx ((b,.cells cs t) :: L))(i:Nat):wx.frozen? ⟨b,i,none⟩=false:=h.frozen (List.mem_cons_self ..) i
theorem KP.six(h:KP w wx ((b,.cells #[a0,a1,a2,a3,a4,a5] t m) :: L)):wx.cell? ⟨b,0,none⟩=some a0/\wx.cell? ⟨b,1,none⟩=some a1/\wx.cell? ⟨b,2,none⟩=some a2/\wx.cell? ⟨b,3,none⟩=some a3/\wx.cell? ⟨b,4,none⟩=some a4/\wx.cell? ⟨b,5,none⟩=some a5 :=
 ⟨h.hc 0 rfl,h.hc 1 rfl,h.hc 2 rfl,h.hc 3 rfl,h.hc 4 rfl,h.hc 5 rfl⟩
theorem f9I{w4:World}{o:Obj}(h:Below (W.alloc o).drew.heap.size (W.alloc o).drew w4):w4.heap[W.heap.size]?=some o:=(h.block _ (by simp)).trans (a0p _ _)
open Desk (Ent)
theorem NV.at_(h:NV w u (List.replicate n m))(hk:k<n):∃ g cap,u=.slice (some ⟨g,0,none⟩) n cap/\w.cell? ⟨g,k,none⟩=some (.int .i64 m):=by
 obtain⟨g,cap,e,a⟩:=h.cell k (by simpa using hk);rw[List.getElem_replicate] at a;rw[List.length_replicate] at e;exact⟨g,cap,e,a⟩
theorem SV.at_(h:SV w u (List.replicate n (m,m)))(hk:k<n):∃ g cap,u=.slice (some ⟨g,0,none⟩) n cap/\w.cell? ⟨g,k*2,none⟩=some (.int .i64 m)/\w.cell? ⟨g,k*2+1,none⟩=some (.int .i64 m):=by
 obtain⟨g,cap,e,a,b⟩:=h.cell k (by simpa using hk);rw[List.getElem_replicate] at a b;rw[List.length_replicate] at e;exact⟨g,cap,e,a,b⟩
def mkE(m:Int):Ent:={ id:=m,kind:=0,a0k:=⟨#[]⟩,a0c:=m,a0e:=[],a0Z:=0 }
theorem EV.at_(h:EV w u (List.replicate n (mkE m,.slice none 0 0)))(hk:k<n):∃ g cap,u=.slice (some ⟨g,0,none⟩) n cap/\w.cell? ⟨g,k*6,none⟩=some (.int .i64 m)/\w.cell? ⟨g,k*6+1,none⟩=some (.int .i64 0)/\w.cell? ⟨g,k*6+2,none⟩=some (.string ⟨#[]⟩)/\w.cell? ⟨g,k*6+3,none⟩=some (.int .i64 m)/\w.cell? ⟨g,k*6+4,none⟩=some (.slice none 0 0)/\w.cell? ⟨g,k*6+5,none⟩=some (.int .i64 0):=by
 obtain⟨g,cap,e,a⟩:=h.cell k (by simpa using hk);rw[List.getElem_replicate] at a;rw[List.length_replicate] at e;exact⟨g,cap,e,a⟩
theorem d2d(n:Nat)(m:Int)(u:Value)(w:World)(hu:NV w u (List.replicate n m))(hl:n<=1000000):
  Calls Tryz.prog 56 #[u,.int .i64 m] w fun e w'=>e=.returned (.bool true)/\Below w.heap.size w w':=by
 obtain⟨a,ca,rfl⟩:=hu.form;have HU:=a0b hu;clear hu;rw[List.length_replicate];rw[List.length_replicate] at HU
 go_enter Tryz.func56,Tryz.ntmps56
 go_wp2_with fail
 go_loopw [5] (fun v wr=>∃ k:Nat,k<=n/\v=.int .i64 k/\Below w.heap.size w wr) (fun v _=>n-(intOf v).toNat)
 case atStart=>exact⟨0,Nat.zero_le _,rfl,Below.refl _ _⟩
 case round =>
  obtain⟨k,hk,rfl,hbl⟩:=hrel;have HB:=a0b hbl;clear hbl
  by_cases hlt:k<n
  ·have hlt':(k:Int)<(n:Int):=by omega
   obtain⟨g,cap,e,a0⟩:=(HU.out.later HB.out).at_ hlt;simp only[Value.slice.injEq,true_and] at e;obtain⟨rfl,rfl⟩:=e;have hne:(m != m)=false:=by simp
   go_wp2_with fail
   go_roundw
   case rel=>exact⟨k+1,by omega,by go_num,HB.out⟩
   case measure=>simp[intOf];omega
  ·have hlt':¬ (k:Int)<(n:Int):=by omega
   go_wp2_with fail
   go_ret;exact⟨rfl,HB.out⟩
theorem d1s(n:Nat)(m:Int)(u:Value)(w:World)(hu:SV w u (List.replicate n (m,m)))(hl:n<=1000000):
  Calls Tryz.prog 57 #[u,.int .i64 m] w fun e w'=>e=.returned (.bool true)/\Below w.heap.size w w':=by
 obtain⟨a,ca,rfl⟩:=hu.form;have HU:=a0b hu;clear hu;rw[List.length_replicate];rw[List.length_replicate] at HU
 go_enter Tryz.func57,Tryz.ntmps57
 go_wp2_with fail
 go_loopw [5] (fun v wr=>∃ k:Nat,k<=n/\v=.int .i64 k/\Below w.heap.size w wr) (fun v _=>n-(intOf v).toNat)
 case atStart=>exact⟨0,Nat.zero_le _,rfl,Below.refl _ _⟩
 case round =>
  obtain⟨k,hk,rfl,hbl⟩:=hrel;have HB:=a0b hbl;clear hbl
  by_cases hlt:k<n
  ·have hlt':(k:Int)<(n:Int):=by omega
   obtain⟨g,cap,e,a0,a1⟩:=(HU.out.later HB.out).at_ hlt;simp only[Value.slice.injEq,true_and] at e;obtain⟨rfl,rfl⟩:=e;have hne:(m != m)=false:=by simp
   go_wp2_with fail
   go_roundw
   case rel=>exact⟨k+1,by omega,by go_num,HB.out⟩
   case measure=>simp[intOf];omega
  ·have hlt':¬ (k:Int)<(n:Int):=by omega
   go_wp2_with fail
   go_ret;exact⟨rfl,HB.out⟩
theorem d0B(n:Nat)(m:Int)(u:Value)(w:World)(hu:EV w u (List.replicate n (mkE m,.slice none 0 0)))(hl:n<=1000000):
  Calls Tryz.prog 58 #[u,.int .i64 m] w fun e w'=>e=.returned (.bool true)/\Below w.heap.size w w':=by
 obtain⟨a,ca,rfl⟩:=hu.form;have HU:=a0b hu;clear hu;rw[List.length_replicate];rw[List.length_replicate] at HU
 go_enter Tryz.func58,Tryz.ntmps58
 go_wp2_with fail
 go_loopw [5] (fun v wr=>∃ k:Nat,k<=n/\v=.int .i64 k/\Below w.heap.size w wr) (fun v _=>n-(intOf v).toNat)
 case atStart=>exact⟨0,Nat.zero_le _,rfl,Below.refl _ _⟩
 case round =>
  obtain⟨k,hk,rfl,hbl⟩:=hrel;have HB:=a0b hbl;clear hbl
  by_cases hlt:k<n
  ·have hlt':(k:Int)<(n:Int):=by omega
   obtain⟨g,cap,e,a0,a1,a2,a3,a4,a5⟩:=(HU.out.later HB.out).at_ hlt;simp only[Value.slice.injEq,true_and] at e;obtain⟨rfl,rfl⟩:=e;have hne:(m != m)=false:=by simp
   go_wp2_with fail
   go_roundw
   case rel=>exact⟨k+1,by omega,by go_num,HB.out⟩
   case measure=>simp[intOf];omega
  ·have hlt':¬ (k:Int)<(n:Int):=by omega
   go_wp2_with fail
   go_ret;exact⟨rfl,HB.out⟩
theorem d7s{P:Program}(w:World)(t ty:TypeId)(base:Nat)(e:TypeId)(i:TypeInfo)(z:Value)(size bytes:Nat)(ht:P.underlying t=some (.slice e))(hi:P.info? e=some i)(hz:i.zero=some z)
  (hsize:i.size=size) (hby:i.bytes=bytes) (hzs:z.cells.size=size) (hsz:0<size)
  (v:Value) (n:Nat) (xs:List Value) (hown:w.ownsRow base e size v n xs)
  (ad:Addr) (m c:Nat) (news:List Value) (hl:news.length=m*size) (hnews:∀ j u,news[j]?=some u->w.cell? (ad.add j)=some u) (h1:∀ u∈news,u.oneCell'=true)
  (hm:0<m) (h63:n+m<=maxLen) (hbytes:(n+m)*bytes<=140737488355328) (hbase:base<=w.heap.size):
  ∃ g cap w',(Builtin.append_ #[t,t] ty #[v,.slice (some ad) m c]).run P w=.ok (.slice (some ⟨g,0,none⟩) (n+m) cap) w' /\
   w'.ownsRow base e size (.slice (some ⟨g,0,none⟩) (n+m) cap) (n+m) (xs++news)/\w.grownBy w' v.ownBlock/\(v.ownBlock=some g\/(g=w.heap.size/\w.grownBy w' none))/\g<w'.heap.size/\w'.ownsRow base e size v n xs:=by
 obtain⟨g,cap,w',hr,h2,h3,_,hlt⟩:=run_append_lies (P:=P) w t ty base e i z size bytes ht hi hz hsize hby hzs hsz v n xs hown ad m c news hl hnews h1 hm h63 hbytes hbase _ rfl;refine⟨g,cap,w',hr,h2,h3,?_⟩;subst hsize;subst hby;have hsmall:n+m<=9223372036854775807:=by simp only[maxLen] at h63;omega
 rcases hown.2 with ⟨rfl,rfl⟩|⟨g0,cap0,cur,rfl,hbg,hg,hnc,hcm,hcs,htake⟩
 ·have hr2:=run_append_nil (P:=P) w t ty e i z ht hi hz ad m c news hl hnews (by omega) (by omega) (by have hb:=hbytes;simp only[Nat.zero_add] at hb;omega);rw[hr2] at hr
  injection hr with e1 e2
  subst e2
  injection e1 with e3 e4 e5
  injection e3 with e6
  injection e6 with e7
  exact⟨.inr ⟨e7.symm,⟨rfl,rfl,rfl,by simp,fun k hk _=>((zr w.drew.heap.size w.drew).alloc (zq _) _).block k hk⟩⟩,hlt,⟨hown.1,.inl ⟨rfl,rfl⟩⟩⟩
 ·by_cases hroom:n+m<=cap0
  ·have hfit:n*i.size+news.length<=cur.size:=by rw[hl,hcs,<- Nat.add_mul];exact Nat.mul_le_mul_right _ hroom
   have hr2:=run_append_room (P:=P) w t ty e i ht hi g0 n cap0 cur hg ad m c news hl hnews h1 hroom hfit;rw[hr2] at hr
   injection hr with e1 e2
   injection e1 with e3 e4 e5
   injection e3 with e6
   injection e6 with e7
   subst e7 e5;refine⟨.inl rfl,hlt,⟨hown.1,?_⟩⟩;rcases h2.2 with ⟨h0,_⟩|⟨g1,cap1,cur1,hv1,hb1,hg1,hn1,hc1,hs1,ht1⟩
   ·cases h0
   ·simp only[Value.slice.injEq,Option.some.injEq,Addr.mk.injEq,and_true,true_and] at hv1;obtain⟨rfl,rfl⟩:=hv1;refine .inr ⟨g0,cap0,cur1,rfl,hbg,hg1,hnc,hcm,hs1,?_⟩;have:=congrArg (List.take (n*i.size)) ht1;rw[List.take_take,Nat.min_eq_left (Nat.mul_le_mul_right _ (by omega)),<- hown.1,List.take_left] at this;rw[<- hown.1];exact this
  ·have holds:∀ j u,xs[j]?=some u->w.cell? ((⟨g0,0,none⟩:Addr).add j)=some u:=hown.cells (g:=g0) rfl;have hr2:=run_append_grow (P:=P) w t ty e i z ht hi hz ⟨g0,0,none⟩ n cap0 xs hown.1 holds ad m c news hl hnews (by omega) (by omega) (growslice_fits (by omega) hbytes);rw[hr2] at hr
   injection hr with e1 e2
   subst e2
   injection e1 with e3 e4 e5
   injection e3 with e6
   injection e6 with e7
   refine⟨.inr ⟨e7.symm,⟨rfl,rfl,rfl,by simp,fun k hk _=>((zr w.drew.heap.size w.drew).alloc (zq _) _).block k hk⟩⟩,hlt,⟨hown.1,.inr ⟨g0,cap0,cur,rfl,hbg,?_,hnc,hcm,hcs,htake⟩⟩⟩;exact (((zr w.drew.heap.size w.drew).alloc (zq _) _).block g0 (Array.getElem?_eq_some_iff.1 hg).1).trans hg
theorem f6U(g j:Nat):(⟨g,0,none⟩:Addr).add j=⟨g,j,none⟩:=by unfold Addr.add;split <;> simp_all
def rp(pat:List Value)(j:Nat):List Value:=(List.replicate j pat).flatten
theorem e6x(pat:List Value):rp pat 0=[]:=rfl
theorem d4O(pat:List Value)(j:Nat):(rp pat j).length=j*pat.length:=by simp[rp]
theorem e3Q(pat:List Value)(j k:Nat):rp pat (j+k)=rp pat j++rp pat k:=by
 unfold rp;rw[<- List.replicate_append_replicate,List.flatten_append]
theorem g0r(pat:List Value):rp pat 1=pat:=by simp[rp]
theorem e6y(pat:List Value)(j:Nat):rp pat (j+1)=rp pat j++pat:=by rw[e3Q,g0r]
theorem f8n(pat:List Value){o:Nat}(hk:k<j)(ho:o<pat.length):(rp pat j)[k*pat.length+o]?=pat[o]?:=by
 have e:j=k+(1+(j-k-1)):=by omega
 rw[e,e3Q,e3Q,g0r,List.getElem?_append_right (by rw[d4O];omega),d4O,Nat.add_sub_cancel_left,List.getElem?_append_left ho]
theorem g2Y{pat:List Value}(h:(rp pat j)[i]?=some v)(hj:j<=n):(rp pat n)[i]?=some v:=by
 have e:n=j+(n-j):=by omega
 rw[e,e3Q,List.getElem?_append_left (List.getElem?_eq_some_iff.1 h).1];exact h
structure Fu(pat:List Value)(w:World)(u:Value)(j:Nat):Prop where
 form:∃ a cap,u=.slice a j cap
 cell:∀ i v,(rp pat j)[i]?=some v->∃ g cap,u=.slice (some ⟨g,0,none⟩) j cap/\w.cell? ⟨g,i,none⟩=some v
variable {w w':World}{pat:List Value}{u:Value}{j:Nat}
theorem Fu.of_own(h:w.ownsRow B e pat.length u j (rp pat j)):Fu pat w u j:=by
 rcases h.2 with ⟨rfl,rfl⟩|⟨g,cap,cur,rfl,_⟩
 ·exact⟨⟨_,_,rfl⟩,fun i v hv=>by simp[rp] at hv⟩
 ·exact⟨⟨_,_,rfl⟩,fun i v hv=>⟨g,cap,rfl,(f6U g i) ▸ h.cells (g:=g) rfl i v hv⟩⟩
theorem Fu.a9i(h:Fu pat w u j)(k:∀ b,u.ownBlock=some b->b<w.heap.size->w'.heap[b]?=w.heap[b]?):Fu pat w' u j :=
 ⟨h.form,fun i v hv=>by
  obtain⟨g,cap,rfl,c⟩:=h.cell i v hv
  exact⟨g,cap,rfl,(zo (k g (by simp[Value.ownBlock]) (World.block_lt_of_cell? _ _ c))).trans c⟩⟩
theorem Fu.off(h:Fu pat w u j)(k:Off G w w')(hG:∀ b,u.ownBlock=some b->b ∉ G):Fu pat w' u j:=h.a9i fun b hb hl=>k.block b hl (hG b hb)
theorem Fu.later(h:Fu pat w u j)(k:Below w.heap.size w w'):Fu pat w' u j:=h.a9i fun b _ hl=>k.block b hl
abbrev e5O(m:Int):List Value:=[.int .i64 m]
abbrev e4i(m:Int):List Value:=[.int .i64 m,.int .i64 m]
abbrev e0j(m:Int):List Value:=[.int .i64 m,.int .i64 0,.string ⟨#[]⟩,.int .i64 m,.slice none 0 0,.int .i64 0]
theorem Fu.nv(h:Fu (e5O m) w u j):NV w u (List.replicate j m):=by
 refine⟨by simpa using h.form,fun k hk=>?_⟩;rw[List.length_replicate] at hk;obtain⟨g,cap,rfl,c⟩:=h.cell _ _ (f8n (e5O m) hk (o:=0) (by simp));exact⟨g,cap,by simp,by simpa using c⟩
theorem Fu.sv(h:Fu (e4i m) w u j):SV w u (List.replicate j (m,m)):=by
 refine⟨by simpa using h.form,fun k hk=>?_⟩;rw[List.length_replicate] at hk;obtain⟨g,cap,rfl,c⟩:=h.cell _ _ (f8n (e4i m) hk (o:=0) (by simp));obtain⟨g',cap',e,c'⟩:=h.cell _ _ (f8n (e4i m) hk (o:=1) (by simp));simp only[Value.slice.injEq,Option.some.injEq,Addr.mk.injEq,and_true,true_and] at e;obtain⟨rfl,rfl⟩:=e;exact⟨g,cap,by simp,by simpa using c,by simpa using c'⟩
theorem Fu.ev(h:Fu (e0j m) w u j):EV w u (List.replicate j (mkE m,.slice none 0 0)):=by
 refine⟨by simpa using h.form,fun k hk=>?_,fun p hp=>?_⟩
 ·rw[List.length_replicate] at hk;have at_:∀ (o:Nat) (v:Value),(e0j m)[o]?=some v->∃ g cap,u=.slice (some ⟨g,0,none⟩) j cap/\w.cell? ⟨g,k*6+o,none⟩=some v:=fun o v hv=>h.cell _ _ ((f8n (e0j m) hk (o:=o) (List.getElem?_eq_some_iff.1 hv).1).trans hv)
  obtain⟨g,cap,rfl,c0⟩:=at_ 0 _ rfl
  have at':∀ (o:Nat) (v:Value),(e0j m)[o]?=some v->w.cell? ⟨g,k*6+o,none⟩=some v:=fun o v hv=>by
   obtain⟨g',cap',e,c'⟩:=at_ o v hv;simp only[Value.slice.injEq,Option.some.injEq,Addr.mk.injEq,and_true,true_and] at e;obtain⟨rfl,rfl⟩:=e;exact c'
  refine⟨g,cap,by simp,?_⟩;rw[List.getElem_replicate];exact⟨c0,at' 1 _ rfl,at' 2 _ rfl,at' 3 _ rfl,at' 4 _ rfl,at' 5 _ rfl⟩
 ·rw[List.eq_of_mem_replicate hp];exact⟨⟨_,_,rfl⟩,fun k hk=>by simp[mkE] at hk⟩
theorem d6c{ops:Array Oper}{rest:List Oper}{o:Oper}{a:Act}{Q:Exit->Act->World->Prop}(hgd:o.guard=none)(x y:Operand)(t:TypeId)(ho:o.op=.call { callee:=.builtin .append,args:=#[x,y],argTypes:=#[t,t] })
  (pat:List Value) {B e:Nat}{i:TypeInfo}{z:Value}(bytes:Nat) (ht:Tryz.prog.underlying t=some (.slice e)) (hi:Tryz.prog.info? e=some i) (hz:i.zero=some z) (hsize:i.size=pat.length) (hby:i.bytes=bytes) (hb72:bytes<=72) (hzs:z.cells.size=pat.length) (hp0:0<pat.length) (hp1:∀ u∈pat,u.oneCell'=true)
  {v:Value}{n:Nat}(hown:W.ownsRow B e pat.length v n (rp pat n)) {m c:Nat}{cs:Array Value}{ty:TypeId}{mk:Nat × Nat}(hcs:cs.toList=rp pat m) (hm:0<m) (hm3:m<=3) (hs:a.eval x=v) (hx:a.eval y=.slice (some ⟨W.heap.size,0,none⟩) m c) (hl:n<=1000000) (hB:B<=W.heap.size)
  (h:∀ g cap w',w'.ownsRow B e pat.length (.slice (some ⟨g,0,none⟩) (n+m) cap) (n+m) (rp pat (n+m))->w'.ownsRow B e pat.length v n (rp pat n)->(∀ u j,j<=n+m->Fu pat W u j->Fu pat w' u j)->Off v.ownBlock.toList W w'->(v.ownBlock=some g\/W.heap.size<=g)->wpList Tryz.prog ops Q rest (a.put o.dst (.slice (some ⟨g,0,none⟩) (n+m) cap)) w'):
  wpList Tryz.prog ops Q (o :: rest) a (W.alloc (.cells cs ty mk)):=by
 refine wpList_plain hgd fun K hK=>?_
 have hnews:=World.news_of_block (cs:=cs) (a0p W (.cells cs ty mk));rw[hcs] at hnews
 obtain⟨g,cap,w',hr,h2,h3,h4,_,h6⟩:=d7s (P:=Tryz.prog) (W.alloc (.cells cs ty mk)) t o.type B e i z pat.length bytes ht hi hz hsize hby hzs hp0 v n (rp pat n) (hown.alloc _) ⟨W.heap.size,0,none⟩ m c (rp pat m) (d4O ..) hnews (fun q hq=>by
  unfold rp at hq;obtain⟨q',h7,h8⟩:=List.mem_flatten.1 hq;rw[List.eq_of_mem_replicate h7] at h8
  exact hp1 q h8) hm (by unfold maxLen;omega) (Nat.le_trans (Nat.mul_le_mul (show n+m<=1000003 by omega) hb72) (by decide)) (by simp;omega)
 rw[<- e3Q] at h2;unfold Oper.wp execOp;simp only[ho,resolve,invoke,builtin,Sem.run_bind,Sem.run_pure,Result.andThen_ok,List.map_toArray,List.map_cons,List.map_nil,hs,hx,hr];refine hK _ _ (h g cap w' h2 h6 (fun u j hj hu=>?_) (((Off.refl _ W).alloc _).grown h3 (fun k hk=>.inl (by simp[hk]))) ?_)
 ·rcases h4 with h4|⟨_,h4⟩
  ·refine⟨hu.form,fun i' v' hv'=>?_⟩;obtain⟨g',cap',rfl,cc⟩:=hu.cell i' v' hv';refine⟨g',cap',rfl,?_⟩
   by_cases e1:g'=g
   ·subst e1;exact (f6U g' i') ▸ h2.cells (g:=g') rfl i' v' (g2Y hv' hj)
   ·have hlt:g'<W.heap.size:=World.block_lt_of_cell? _ _ cc;refine (zo (w:=W) ?_).trans cc;exact (h3.block g' (by rw[World.size_alloc];omega) (by rw[h4];simpa using e1)).trans (((zr W.heap.size W).alloc (zq _) _).block g' hlt)
  ·exact hu.a9i fun b _ hl=>(h4.block b (by rw[World.size_alloc];omega) (by simp)).trans (((zr W.heap.size W).alloc (zq _) _).block b hl)
 ·rcases h4 with h4|⟨h4,_⟩
  ·exact .inl h4
  ·exact .inr (by rw[h4];simp)
abbrev KL:=Value × Value × Value × Value × Int
def klV(x:KL):List Value:=[x.1,x.2.1,x.2.2.1,x.2.2.2.1,.int .i64 x.2.2.2.2]
def klB(x:KL):List Nat:=x.1.ownBlock.toList++(x.2.1.ownBlock.toList++(x.2.2.1.ownBlock.toList++x.2.2.2.1.ownBlock.toList))
def K4(P:Int->List Value)(w:World)(x:KL):Prop :=
 ∃ j,j<=900000/\Fu (P x.2.2.2.2) w x.1 j/\Fu (P x.2.2.2.2) w x.2.1 (j+1)/\Fu (P x.2.2.2.2) w x.2.2.1 (j+2)/\Fu (P x.2.2.2.2) w x.2.2.2.1 (j+3)
theorem K4.off{x:KL}(h:K4 P w x)(k:Off G w w')(hG:∀ b∈klB x,b ∉ G):K4 P w' x:=by
 obtain⟨j,hj,h1,h2,h3,h4⟩:=h;exact⟨j,hj,h1.off k fun b hb=>hG b (by simp[klB,hb]),h2.off k fun b hb=>hG b (by simp[klB,hb]),h3.off k fun b hb=>hG b (by simp[klB,hb]),h4.off k fun b hb=>hG b (by simp[klB,hb])⟩
structure e7E(P:Int->List Value)(t:TypeId)(K:List Nat)(w:World)(r:Value)(X:List KL):Prop where
 own:w.ownsRow 0 t 5 r X.length (X.flatMap klV)
 four:∀ x∈X,K4 P w x
 bl:∀ x∈X,∀ b∈klB x,b∈K
theorem e7E.off{t:TypeId}{X:List KL}(h:e7E P t K w r X)(k:Off G w w')(hr:∀ b,r.ownBlock=some b->b ∉ G)(hK:∀ b∈K,b ∉ G):e7E P t K w' r X :=
 ⟨a1i h.own k hr,fun x hx=>(h.four x hx).off k fun b hb=>hK b (h.bl x hx b hb),h.bl⟩
theorem e7E.wide{t:TypeId}{K':List Nat}{X:List KL}(h:e7E P t K w r X)(hK:∀ b∈K,b∈K'):e7E P t K' w r X :=
 ⟨h.own,h.four,fun x hx b hb=>hK b (h.bl x hx b hb)⟩
theorem e7E.snoc{t:TypeId}{r':Value}{X:List KL}{x:KL}(h:e7E P t K w r X)(hx:K4 P w x)(k:Off r.ownBlock.toList w w')(hK:∀ b∈K,r.ownBlock≠some b)(hxr:∀ b∈klB x,r.ownBlock≠some b)
  (ho:w'.ownsRow 0 t 5 r' (X.length+1) (X.flatMap klV++klV x)):e7E P t (klB x++K) w' r' (X++[x]):=by
 refine⟨by simpa using ho,fun y hy=>?_,fun y hy b hb=>?_⟩
 ·rcases List.mem_append.1 hy with hy|hy
  ·exact (h.four y hy).off k fun b hb e=>hK b (h.bl y hy b hb) (by simpa using e)
  ·rw[List.mem_singleton.1 hy];exact hx.off k fun b hb e=>hxr b hb (by simpa using e)
 ·rcases List.mem_append.1 hy with hy|hy
  ·exact List.mem_append_right _ (h.bl y hy b hb)
  ·rw[List.mem_singleton.1 hy] at hb;exact List.mem_append_left _ hb
abbrev tI:TypeId:=111
abbrev tS:TypeId:=114
abbrev tE:TypeId:=117
structure BR(w:World)(K:List Nat)(r1 r2 r3:Value)(X1 X2 X3:List KL):Prop where
 b1:e7E e5O tI K w r1 X1
 b2:e7E e4i tS K w r2 X2
 b3:e7E e0j tE K w r3 X3
 kb:∀ b∈K,b<w.heap.size/\r1.ownBlock≠some b/\r2.ownBlock≠some b/\r3.ownBlock≠some b
structure BK(w:World)(B:Nat)(v0 v1:Value)(K:List Nat)(r1 r2 r3:Value)(X1 X2 X3:List KL):Prop where
 hb:w.heap[B]?=some (.cells #[v0,v1,r1,r2,r3] 86)
 br:BR w K r1 r2 r3 X1 X2 X3
 bK:B ∉ K
variable {w w':World}{B:Nat}{v0 v1 r1 r2 r3 r':Value}{K G:List Nat}{X1 X2 X3:List KL}{x:KL}
theorem e1D{e1 e2 s1 s2 n1 n2 b1 b2:Nat}{u1 u2:Value}{l1 l2:List Value}(h1:w.ownsRow b1 e1 s1 u1 n1 l1)(h2:w.ownsRow b2 e2 s2 u2 n2 l2)(hne:e2≠e1)(hb:u1.ownBlock=some b):u2.ownBlock≠some b:=by
 intro hc;rcases h2.2 with ⟨rfl,_⟩|⟨g,cap,cur,rfl,_,hh,_⟩
 ·simp[Value.ownBlock] at hc
 ·simp[Value.ownBlock] at hc;subst hc;exact c8L h1 hh hne hb
theorem BR.off(h:BR w K r1 r2 r3 X1 X2 X3)(k:Off G w w')(h1:∀ b,r1.ownBlock=some b->b ∉ G)(h2:∀ b,r2.ownBlock=some b->b ∉ G)(h3:∀ b,r3.ownBlock=some b->b ∉ G)(hK:∀ b∈K,b ∉ G):BR w' K r1 r2 r3 X1 X2 X3 :=
 ⟨h.b1.off k h1 hK,h.b2.off k h2 hK,h.b3.off k h3 hK,fun b hb=>⟨zL (h.kb b hb).1 k.size,(h.kb b hb).2⟩⟩
def bkB(B:Nat)(r1 r2 r3:Value):List Nat:=B :: (r1.ownBlock.toList++(r2.ownBlock.toList++r3.ownBlock.toList))
theorem BK.off(h:BK w B v0 v1 K r1 r2 r3 X1 X2 X3)(k:Off G w w')(hR:∀ b∈bkB B r1 r2 r3,b ∉ G)(hK:∀ b∈K,b ∉ G):BK w' B v0 v1 K r1 r2 r3 X1 X2 X3 :=
 ⟨(k.block B (Array.getElem?_eq_some_iff.1 h.hb).1 (hR B (by simp[bkB]))).trans h.hb,h.br.off k (fun b hb=>hR b (by simp[bkB,hb])) (fun b hb=>hR b (by simp[bkB,hb])) (fun b hb=>hR b (by simp[bkB,hb])) hK,h.bK⟩
theorem BK.later(h:BK w B v0 v1 K r1 r2 r3 X1 X2 X3)(k:Below w.heap.size w w'):BK w' B v0 v1 K r1 r2 r3 X1 X2 X3:=h.off (G:=[]) (Off.of_below k) (by simp) (by simp)
theorem BK.cells(h:BK w B v0 v1 K r1 r2 r3 X1 X2 X3):w.cell? ⟨B,0,none⟩=some v0/\w.cell? ⟨B,1,none⟩=some v1/\w.cell? ⟨B,2,none⟩=some r1/\w.cell? ⟨B,3,none⟩=some r2/\w.cell? ⟨B,4,none⟩=some r3/\∀ o,w.frozen? ⟨B,o,none⟩=false:=by
 have:=h.hb;refine⟨?_,?_,?_,?_,?_,fun o=>?_⟩ <;> simp[World.cell?,World.frozen?,this]
theorem BK.forms(h:BK w B v0 v1 K r1 r2 r3 X1 X2 X3):(∃ a c,r1=.slice a X1.length c)/\(∃ a c,r2=.slice a X2.length c)/\∃ a c,r3=.slice a X3.length c:=⟨c9y h.br.b1.own,c9y h.br.b2.own,c9y h.br.b3.own⟩
def g2M(w:World)(r r':Value):Prop:=∀ b,r'.ownBlock=some b->r.ownBlock=some b\/w.heap.size<=b
theorem BK.add1(h:BK w B v0 v1 K r1 r2 r3 X1 X2 X3)(hx:K4 e5O w x)(hxl:∀ b∈klB x,b<w.heap.size/\b ∉ bkB B r1 r2 r3)(k:Off r1.ownBlock.toList w w')(ho:w'.ownsRow 0 tI 5 r' (X1.length+1) (X1.flatMap klV++klV x))(hat:g2M w r1 r'):
  BK (w'.setCell ⟨B,2,none⟩ r') B v0 v1 (klB x++K) r' r2 r3 (X1++[x]) X2 X3/\Off (bkB B r1 r2 r3) w (w'.setCell ⟨B,2,none⟩ r'):=by
 have hBl:=(Array.getElem?_eq_some_iff.1 h.hb).1;have hB1:r1.ownBlock≠some B:=c8L h.br.b1.own h.hb (by decide);have hB2:r2.ownBlock≠some B:=c8L h.br.b2.own h.hb (by decide);have hB3:r3.ownBlock≠some B:=c8L h.br.b3.own h.hb (by decide);have hb':w'.heap[B]?=some (.cells #[v0,v1,r1,r2,r3] 86):=(k.block B hBl (by simpa using hB1)).trans h.hb;have hB':r'.ownBlock≠some B:=c8L ho hb' (by decide);have n2:∀ b,r2.ownBlock=some b->b ∉ r1.ownBlock.toList:=fun b hb e=>e1D h.br.b2.own h.br.b1.own (by decide) hb (by simpa using e)
 have n3:∀ b,r3.ownBlock=some b->b ∉ r1.ownBlock.toList:=fun b hb e=>e1D h.br.b3.own h.br.b1.own (by decide) hb (by simpa using e)
 have nK:∀ b∈K,b ∉ r1.ownBlock.toList:=fun b hb e=>(h.br.kb b hb).2.1 (by simpa using e)
 have s1:=h.br.b1.snoc hx k (fun b hb=>(h.br.kb b hb).2.1) (fun b hb e=>(hxl b hb).2 (by simp[bkB,e])) ho;have s2:=(h.br.b2.off k n2 nK).wide (K':=klB x++K) (fun b hb=>List.mem_append_right _ hb);have s3:=(h.br.b3.off k n3 nK).wide (K':=klB x++K) (fun b hb=>List.mem_append_right _ hb);have kd:Off [B] w' (w'.setCell ⟨B,2,none⟩ r'):=Off.set0 ..
 have xB:∀ b∈klB x++K,b≠B:=fun b hb e=>by
  rcases List.mem_append.1 hb with hb|hb
  ·exact (hxl b hb).2 (by simp[bkB,e])
  ·exact h.bK (e ▸ hb)
 have br:BR w' (klB x++K) r' r2 r3 (X1++[x]) X2 X3:=by
  refine⟨s1,s2,s3,fun b hb=>?_⟩;rcases List.mem_append.1 hb with hb|hb
  ·refine⟨zL (hxl b hb).1 k.size,fun e=>?_,fun e=>(hxl b hb).2 (by simp[bkB,e]),fun e=>(hxl b hb).2 (by simp[bkB,e])⟩;rcases hat b e with e|e
   ·exact (hxl b hb).2 (by simp[bkB,e])
   ·have:=(hxl b hb).1;omega
  ·obtain⟨q1,q2,q3,q4⟩:=h.br.kb b hb;refine⟨zL q1 k.size,fun e=>?_,q3,q4⟩;rcases hat b e with e|e
   ·exact q2 e
   ·omega
 refine⟨⟨by rw[d1X hb'];rfl,br.off kd (fun b hb e=>hB' (by simp at e;exact e ▸ hb)) (fun b hb e=>hB2 (by simp at e;exact e ▸ hb)) (fun b hb e=>hB3 (by simp at e;exact e ▸ hb)) (fun b hb e=>xB b hb (by simpa using e)),fun e=>xB B e rfl⟩,?_⟩;exact (k.mono fun y hy=>by simp at hy;simp[bkB,hy]).setCell (.inl (by simp[bkB])) _ _
theorem BK.add2(h:BK w B v0 v1 K r1 r2 r3 X1 X2 X3)(hx:K4 e4i w x)(hxl:∀ b∈klB x,b<w.heap.size/\b ∉ bkB B r1 r2 r3)(k:Off r2.ownBlock.toList w w')(ho:w'.ownsRow 0 tS 5 r' (X2.length+1) (X2.flatMap klV++klV x))(hat:g2M w r2 r'):
  BK (w'.setCell ⟨B,3,none⟩ r') B v0 v1 (klB x++K) r1 r' r3 X1 (X2++[x]) X3/\Off (bkB B r1 r2 r3) w (w'.setCell ⟨B,3,none⟩ r'):=by
 have hBl:=(Array.getElem?_eq_some_iff.1 h.hb).1;have hB1:r1.ownBlock≠some B:=c8L h.br.b1.own h.hb (by decide);have hB2:r2.ownBlock≠some B:=c8L h.br.b2.own h.hb (by decide);have hB3:r3.ownBlock≠some B:=c8L h.br.b3.own h.hb (by decide);have hb':w'.heap[B]?=some (.cells #[v0,v1,r1,r2,r3] 86):=(k.block B hBl (by simpa using hB2)).trans h.hb;have hB':r'.ownBlock≠some B:=c8L ho hb' (by decide);have n1:∀ b,r1.ownBlock=some b->b ∉ r2.ownBlock.toList:=fun b hb e=>e1D h.br.b1.own h.br.b2.own (by decide) hb (by simpa using e)
 have n3:∀ b,r3.ownBlock=some b->b ∉ r2.ownBlock.toList:=fun b hb e=>e1D h.br.b3.own h.br.b2.own (by decide) hb (by simpa using e)
 have nK:∀ b∈K,b ∉ r2.ownBlock.toList:=fun b hb e=>(h.br.kb b hb).2.2.1 (by simpa using e)
 have s2:=h.br.b2.snoc hx k (fun b hb=>(h.br.kb b hb).2.2.1) (fun b hb e=>(hxl b hb).2 (by simp[bkB,e])) ho;have s1:=(h.br.b1.off k n1 nK).wide (K':=klB x++K) (fun b hb=>List.mem_append_right _ hb);have s3:=(h.br.b3.off k n3 nK).wide (K':=klB x++K) (fun b hb=>List.mem_append_right _ hb);have kd:Off [B] w' (w'.setCell ⟨B,3,none⟩ r'):=Off.set0 ..
 have xB:∀ b∈klB x++K,b≠B:=fun b hb e=>by
  rcases List.mem_append.1 hb with hb|hb
  ·exact (hxl b hb).2 (by simp[bkB,e])
  ·exact h.bK (e ▸ hb)
 have br:BR w' (klB x++K) r1 r' r3 X1 (X2++[x]) X3:=by
  refine⟨s1,s2,s3,fun b hb=>?_⟩;rcases List.mem_append.1 hb with hb|hb
  ·refine⟨zL (hxl b hb).1 k.size,fun e=>(hxl b hb).2 (by simp[bkB,e]),fun e=>?_,fun e=>(hxl b hb).2 (by simp[bkB,e])⟩;rcases hat b e with e|e
   ·exact (hxl b hb).2 (by simp[bkB,e])
   ·have:=(hxl b hb).1;omega
  ·obtain⟨q1,q2,q3,q4⟩:=h.br.kb b hb;refine⟨zL q1 k.size,q2,fun e=>?_,q4⟩;rcases hat b e with e|e
   ·exact q3 e
   ·omega
 refine⟨⟨by rw[d1X hb'];rfl,br.off kd (fun b hb e=>hB1 (by simp at e;exact e ▸ hb)) (fun b hb e=>hB' (by simp at e;exact e ▸ hb)) (fun b hb e=>hB3 (by simp at e;exact e ▸ hb)) (fun b hb e=>xB b hb (by simpa using e)),fun e=>xB B e rfl⟩,?_⟩;exact (k.mono fun y hy=>by simp at hy;simp[bkB,hy]).setCell (.inl (by simp[bkB])) _ _
theorem BK.add3(h:BK w B v0 v1 K r1 r2 r3 X1 X2 X3)(hx:K4 e0j w x)(hxl:∀ b∈klB x,b<w.heap.size/\b ∉ bkB B r1 r2 r3)(k:Off r3.ownBlock.toList w w')(ho:w'.ownsRow 0 tE 5 r' (X3.length+1) (X3.flatMap klV++klV x))(hat:g2M w r3 r'):
  BK (w'.setCell ⟨B,4,none⟩ r') B v0 v1 (klB x++K) r1 r2 r' X1 X2 (X3++[x])/\Off (bkB B r1 r2 r3) w (w'.setCell ⟨B,4,none⟩ r'):=by
 have hBl:=(Array.getElem?_eq_some_iff.1 h.hb).1;have hB1:r1.ownBlock≠some B:=c8L h.br.b1.own h.hb (by decide);have hB2:r2.ownBlock≠some B:=c8L h.br.b2.own h.hb (by decide);have hB3:r3.ownBlock≠some B:=c8L h.br.b3.own h.hb (by decide);have hb':w'.heap[B]?=some (.cells #[v0,v1,r1,r2,r3] 86):=(k.block B hBl (by simpa using hB3)).trans h.hb;have hB':r'.ownBlock≠some B:=c8L ho hb' (by decide);have n1:∀ b,r1.ownBlock=some b->b ∉ r3.ownBlock.toList:=fun b hb e=>e1D h.br.b1.own h.br.b3.own (by decide) hb (by simpa using e)
 have n2:∀ b,r2.ownBlock=some b->b ∉ r3.ownBlock.toList:=fun b hb e=>e1D h.br.b2.own h.br.b3.own (by decide) hb (by simpa using e)
 have nK:∀ b∈K,b ∉ r3.ownBlock.toList:=fun b hb e=>(h.br.kb b hb).2.2.2 (by simpa using e)
 have s3:=h.br.b3.snoc hx k (fun b hb=>(h.br.kb b hb).2.2.2) (fun b hb e=>(hxl b hb).2 (by simp[bkB,e])) ho;have s1:=(h.br.b1.off k n1 nK).wide (K':=klB x++K) (fun b hb=>List.mem_append_right _ hb);have s2:=(h.br.b2.off k n2 nK).wide (K':=klB x++K) (fun b hb=>List.mem_append_right _ hb);have kd:Off [B] w' (w'.setCell ⟨B,4,none⟩ r'):=Off.set0 ..
 have xB:∀ b∈klB x++K,b≠B:=fun b hb e=>by
  rcases List.mem_append.1 hb with hb|hb
  ·exact (hxl b hb).2 (by simp[bkB,e])
  ·exact h.bK (e ▸ hb)
 have br:BR w' (klB x++K) r1 r2 r' X1 X2 (X3++[x]):=by
  refine⟨s1,s2,s3,fun b hb=>?_⟩;rcases List.mem_append.1 hb with hb|hb
  ·refine⟨zL (hxl b hb).1 k.size,fun e=>(hxl b hb).2 (by simp[bkB,e]),fun e=>(hxl b hb).2 (by simp[bkB,e]),fun e=>?_⟩;rcases hat b e with e|e
   ·exact (hxl b hb).2 (by simp[bkB,e])
   ·have:=(hxl b hb).1;omega
  ·obtain⟨q1,q2,q3,q4⟩:=h.br.kb b hb;refine⟨zL q1 k.size,q2,q3,fun e=>?_⟩;rcases hat b e with e|e
   ·exact q4 e
   ·omega
 refine⟨⟨by rw[d1X hb'];rfl,br.off kd (fun b hb e=>hB1 (by simp at e;exact e ▸ hb)) (fun b hb e=>hB2 (by simp at e;exact e ▸ hb)) (fun b hb e=>hB' (by simp at e;exact e ▸ hb)) (fun b hb e=>xB b hb (by simpa using e)),fun e=>xB B e rfl⟩,?_⟩;exact (k.mono fun y hy=>by simp at hy;simp[bkB,hy]).setCell (.inl (by simp[bkB])) _ _
theorem d5e(l:List Int)(u v:Value)(w:World)(hu:NV w u l)(hv:NV w v l)(hl:l.length<=1000000):
  Calls Tryz.prog 120 #[u,v] w fun e w'=>e=.returned (.bool true)/\Below w.heap.size w w':=by
 obtain⟨a,ca,rfl⟩:=hu.form;obtain⟨b,cb,rfl⟩:=hv.form;have HU:=a0b hu;have HV:=a0b hv;clear hu hv;have hb:((l.length:Int) != (l.length:Int))=false:=by simp
 go_enter Tryz.func120,Tryz.ntmps120
 go_wp2_with fail
 go_loopw [5] (fun v wr=>∃ k:Nat,k<=l.length/\v=.int .i64 k/\Below w.heap.size w wr) (fun v _=>l.length-(intOf v).toNat)
 case atStart=>exact⟨0,Nat.zero_le _,rfl,Below.refl _ _⟩
 case round =>
  obtain⟨k,hk,rfl,hbl⟩:=hrel;have HB:=a0b hbl;clear hbl
  by_cases hlt:k<l.length
  ·have hlt':(k:Int)<(l.length:Int):=by omega
   obtain⟨g,cap,e,a0⟩:=(HU.out.later HB.out).cell k hlt;simp only[Value.slice.injEq,true_and] at e;obtain⟨rfl,rfl⟩:=e;obtain⟨g2,cap2,e,b0⟩:=(HV.out.later HB.out).cell k hlt;simp only[Value.slice.injEq,true_and] at e;obtain⟨rfl,rfl⟩:=e;generalize l[k]=x at *
   go_upto_region 6 with fail
   go_big_region
   have HBd:=a0b (HB.out.drew);clear HB
   go_wp2_with fail
   go_roundw
   case rel=>exact⟨k+1,by omega,by go_num,HBd.out⟩
   case measure=>simp[intOf];omega
  ·have hlt':¬ (k:Int)<(l.length:Int):=by omega
   go_wp2_with fail
   go_ret;exact⟨rfl,HB.out⟩
theorem e4x(L:List (Int × Int))(u v:Value)(w:World)(hu:SV w u L)(hv:SV w v L)(hl:L.length<=1000000):
  Calls Tryz.prog 183 #[u,v] w fun e w'=>e=.returned (.bool true)/\Below w.heap.size w w':=by
 obtain⟨a,ca,rfl⟩:=hu.form;obtain⟨b,cb,rfl⟩:=hv.form;have HU:=a0b hu;have HV:=a0b hv;clear hu hv;have hb:((L.length:Int) != (L.length:Int))=false:=by simp
 go_enter Tryz.func183,Tryz.ntmps183
 go_wp2_with fail
 go_loopw [5] (fun v wr=>∃ k:Nat,k<=L.length/\v=.int .i64 k/\Below w.heap.size w wr) (fun v _=>L.length-(intOf v).toNat)
 case atStart=>exact⟨0,Nat.zero_le _,rfl,Below.refl _ _⟩
 case round =>
  obtain⟨k,hk,rfl,hbl⟩:=hrel;have HB:=a0b hbl;clear hbl
  by_cases hlt:k<L.length
  ·have hlt':(k:Int)<(L.length:Int):=by omega
   obtain⟨g,cap,e,a0,a1⟩:=(HU.out.later HB.out).cell k hlt;simp only[Value.slice.injEq,true_and] at e;obtain⟨rfl,rfl⟩:=e;obtain⟨g2,cap2,e,b0,b1⟩:=(HV.out.later HB.out).cell k hlt;simp only[Value.slice.injEq,true_and] at e;obtain⟨rfl,rfl⟩:=e;generalize L[k].1=x at *;generalize L[k].2=y at *
   go_upto_region 6 with fail
   go_big_region
   have HBd:=a0b (HB.out.drew);clear HB
   go_wp2_with fail
   go_roundw
   case rel=>exact⟨k+1,by omega,by go_num,HBd.out⟩
   case measure=>simp[intOf];omega
  ·have hlt':¬ (k:Int)<(L.length:Int):=by omega
   go_wp2_with fail
   go_ret;exact⟨rfl,HB.out⟩
theorem d7M(h:Below B w w')(n:Nat):Below B w (w'.drewN n):=⟨h.os,h.tape,h.output,h.size,h.block⟩
theorem d9N(l m:List (Ent × Value))(u v:Value)(w:World)(hu:EV w u l)(hv:EV w v m)(he:l.map (·.1)=m.map (·.1))(hl:l.length<=1000)(hs:∀ p∈l,p.1.a0e.length<=1000):
  Calls Tryz.prog 119 #[u,v] w fun e w'=>e=.returned (.bool true)/\Below w.heap.size w w':=by
 obtain⟨a,ca,rfl⟩:=hu.form;obtain⟨b,cb,rfl⟩:=hv.form;have hlen:m.length=l.length:=by have:=congrArg List.length he;simpa using this.symm
 have AT:Hid (∀ (k:Nat) (h:k<l.length) (h':k<m.length),m[k].1=l[k].1):=fun k h h'=>by
  have:=congrArg (fun x=>x[k]?) he;simp only[List.getElem?_map,List.getElem?_eq_getElem h,List.getElem?_eq_getElem h',Option.map_some] at this;exact (Option.some.inj this).symm
 have HU:=a0b hu;have HV:=a0b hv;have HS:=a0b hs;rw[hlen];clear hu hv he hs;have hb:((l.length:Int) != (l.length:Int))=false:=by simp
 go_enter Tryz.func119,Tryz.ntmps119
 go_wp2_with fail
 go_loopw [5,6] (fun v _ wr=>∃ k:Nat,k<=l.length/\v=.int .i64 k/\Below w.heap.size w wr) (fun v _ _=>l.length-(intOf v).toNat)
 case atStart=>exact⟨0,Nat.zero_le _,rfl,Below.refl _ _⟩
 case round =>
  obtain⟨k,hk,rfl,hbl⟩:=hrel;have HB:=a0b hbl;clear hbl
  by_cases hlt:k<l.length
  ·have hlt':(k:Int)<(l.length:Int):=by omega
   have hmt:k<m.length:=by omega
   obtain⟨g,cap,e,a0,a1,a2,a3,a4,a5⟩:=(HU.out.later HB.out).cell k hlt;simp only[Value.slice.injEq,true_and] at e;obtain⟨rfl,rfl⟩:=e;obtain⟨g2,cap2,e,b0,b1,b2,b3,b4,b5⟩:=(HV.out.later HB.out).cell k hmt;simp only[Value.slice.injEq,true_and] at e;obtain⟨rfl,rfl⟩:=e;have s1:=(HU.out.later HB.out).sp l[k] (zg hlt);have s2:=(HV.out.later HB.out).sp m[k] (zg hmt);rw[AT.out k hlt hmt] at b0 b1 b2 b3 b5 s2;have SP:=a0b (fun W' (q:Below wr.heap.size wr W')=>e4x l[k].1.a0e l[k].2 m[k].2 W' (s1.later q) (s2.later q) (by have:=HS.out l[k] (zg hlt);omega));obtain⟨f1,f2,e1⟩:=s1.form;obtain⟨f3,f4,e2⟩:=s2.form;rw[e1] at a4 SP;rw[e2] at b4 SP;clear s1 s2 e1 e2;generalize l[k].1=x at *;have n0:(x.id != x.id)=false:=by simp
   have n1:(x.kind != x.kind)=false:=by simp
   have n3:(x.a0c != x.a0c)=false:=by simp
   have n5:(x.a0Z != x.a0Z)=false:=by simp
   have HBd:=a0b (HB.out.drew);have SS:Hid (∀ W',Below wr.drew.heap.size wr.drew W'->W'.cell? ⟨g,k*6,none⟩=some (.int .i64 x.id)/\W'.cell? ⟨g,k*6+1,none⟩=some (.int .i64 x.kind)/\W'.cell? ⟨g,k*6+2,none⟩=some (.string x.a0k)/\W'.cell? ⟨g,k*6+3,none⟩=some (.int .i64 x.a0c)/\W'.cell? ⟨g,k*6+4,none⟩=some (.slice f1 x.a0e.length f2)/\W'.cell? ⟨g,k*6+5,none⟩=some (.int .i64 x.a0Z)/\W'.cell? ⟨g2,k*6,none⟩=some (.int .i64 x.id)/\W'.cell? ⟨g2,k*6+1,none⟩=some (.int .i64 x.kind)/\W'.cell? ⟨g2,k*6+2,none⟩=some (.string x.a0k)/\W'.cell? ⟨g2,k*6+3,none⟩=some (.int .i64 x.a0c)/\W'.cell? ⟨g2,k*6+4,none⟩=some (.slice f3 x.a0e.length f4)/\W'.cell? ⟨g2,k*6+5,none⟩=some (.int .i64 x.a0Z)):=fun W' q=>⟨a0a q a0,a0a q a1,a0a q a2,a0a q a3,a0a q a4,a0a q a5,a0a q b0,a0a q b1,a0a q b2,a0a q b3,a0a q b4,a0a q b5⟩
   clear HB
   go_upto_region 6 with fail
   go_region_held3 (fun W'=>W'.cell? ⟨g,k*6,none⟩=some (.int .i64 x.id)/\W'.cell? ⟨g,k*6+1,none⟩=some (.int .i64 x.kind)/\W'.cell? ⟨g,k*6+2,none⟩=some (.string x.a0k)/\W'.cell? ⟨g,k*6+3,none⟩=some (.int .i64 x.a0c)/\W'.cell? ⟨g,k*6+4,none⟩=some (.slice f1 x.a0e.length f2)/\W'.cell? ⟨g,k*6+5,none⟩=some (.int .i64 x.a0Z)/\W'.cell? ⟨g2,k*6,none⟩=some (.int .i64 x.id)/\W'.cell? ⟨g2,k*6+1,none⟩=some (.int .i64 x.kind)/\W'.cell? ⟨g2,k*6+2,none⟩=some (.string x.a0k)/\W'.cell? ⟨g2,k*6+3,none⟩=some (.int .i64 x.a0c)/\W'.cell? ⟨g2,k*6+4,none⟩=some (.slice f3 x.a0e.length f4)/\W'.cell? ⟨g2,k*6+5,none⟩=some (.int .i64 x.a0Z))
    (first
     |with_reducible exact SS.out _ HB6.out
     |exact⟨a0,a1,a2,a3,a4,a5,b0,b1,b2,b3,b4,b5⟩)
    (first
     |(go_at_call 183;refine (SP.out _ (a0q _)).mono ?_;rintro e w6 ⟨rfl,hb6⟩;have HB6:=a0b hb6;clear hb6))
   have HF:Hid (Below w.heap.size w w6):=a0j HBd.out HB6.out (zq _);obtain⟨c0,c1,c2,c3,c4,c5,d0,d1,d2,d3,d4,d5⟩:=SS.out _ HB6.out;clear HB6 HBd SS SP a0 a1 a2 a3 a4 a5 b0 b1 b2 b3 b4 b5;have n2:(x.a0k.toList != x.a0k.toList)=false:=by simp
   have n2':(x.a0k.toList==x.a0k.toList)=true:=by simp
   go_upto_region 7 with fail
   go_quiet (fail)
   go_wp2_with fail
   go_roundw
   case rel=>exact⟨k+1,by omega,by go_num,d7M HF.out _⟩
   case measure=>simp[intOf];omega
  ·have hlt':¬ (k:Int)<(l.length:Int):=by omega
   go_wp2_with fail
   go_ret;exact⟨rfl,HB.out⟩
variable {w:World}{B:Nat}{v0 v1 r1 r2 r3:Value}{K:List Nat}{X1 X2 X3:List KL}
abbrev f8N(X1 X2 X3:List KL):Int:=-1000-(X1.length:Int)-X2.length-X3.length
theorem e1W(h:BK w B v0 v1 K r1 r2 r3 X1 X2 X3)(h1:X1.length<=1000000000)(h2:X2.length<=1000000000)(h3:X3.length<=1000000000):
  Calls Tryz.prog 184 #[.pointer (some ⟨B,2,none⟩)] w fun e w'=>e=.returned (.int .i64 (f8N X1 X2 X3))/\Below w.heap.size w w':=by
 obtain⟨_,_,c2,c3,c4,_⟩:=h.cells;obtain⟨⟨a1,p1,rfl⟩,⟨a2,p2,rfl⟩,a3,p3,rfl⟩:=h.forms;have HB:=a0b h;clear h;have k1:IntKind.i64.wrap (-1000-(X1.length:Int))=-1000-(X1.length:Int):=a0G (by omega) (by omega);have k2:IntKind.i64.wrap (-1000-(X1.length:Int)-X2.length)=-1000-(X1.length:Int)-X2.length:=a0G (by omega) (by omega);have k3:IntKind.i64.wrap (-1000-(X1.length:Int)-X2.length-X3.length)=-1000-(X1.length:Int)-X2.length-X3.length:=a0G (by omega) (by omega)
 go_enter Tryz.func184,Tryz.ntmps184
 go_upto_region 1 with fail
 go_quiet (fail)
 go_wp2_with fail
 go_ret;exact⟨rfl,d7M (zr _ _) _⟩
end Go.Proofs.YtfigmlfdnickmaaGreatDoor
