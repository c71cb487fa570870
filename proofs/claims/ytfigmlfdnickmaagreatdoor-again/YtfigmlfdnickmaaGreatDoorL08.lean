import Derived.Test.YtfigmlfdnickmaaGreatDoorL07
import Derived.Laws.Rows
set_option maxRecDepth 100000
set_option maxHeartbeats 8000000
variable{e:Go.Proofs.YtfigmlfdnickmaaGreatDoor.Desk.Ent}{given n now nowc t tq:Int}{ts:List (ByteArray × Int)}{es esc:List Go.Proofs.YtfigmlfdnickmaaGreatDoor.Desk.Ent}{E G l:List Int}{B B' Q R b d k:Nat}{c1 ck col:Nat->Option Go.Proofs.YtfigmlfdnickmaaGreatDoor.Col}{r rk:Go.Proofs.YtfigmlfdnickmaaGreatDoor.Raw}{s:Go.Proofs.YtfigmlfdnickmaaGreatDoor.Desk.St}{v v' v2 vE vG:Go.Value}{w w' w1 w2 w3 w4 wx:Go.World}
namespace Go.Proofs.YtfigmlfdnickmaaGreatDoor
open Go.RowKit
open Desk (Ent St Ids kept a0C a0Q a1C a2e ofB a0y a2c Mid a1H a5R)
theorem c2K(h:Mid s)(he:e∈s.es)(hk:e.kind=3)(hf:Desk.a1e s.ts s.es e.a0k e.a0c e.a0e=true):Mid { s with es:=a0C e.id s.es }:=by
 obtain⟨l,r,e1,e2,_⟩:=Desk.a8i h.ids he rfl;have h':Mid ⟨s.ts,l++e :: r,s.given,s.now⟩:=by rw[<- e1];exact h
 have:=h'.grant hk (by rw[<- e1];exact hf);rw[e2];exact this
theorem GX.yes{v4:Value}(h:GX w wx d s r col v4 k v rk ck)(hk':k<(s.es.filter Desk.a0T).length){g:EG}(hg:g∈rk.eg)(hge:g.e=(s.es.filter Desk.a0T)[k])(hk3:g.e.kind=3){i:Nat}(hi:i<rk.tg.length)(hname:rk.tg[i].name=g.e.a0k)
  (q2:Step (·=.a0k i) wx.heap.size ck c1 wx w1) (sp:a7R w1 d (rk.setT i (rk.tg[i].with (a1z rk.tg[i].A g.e.a0e g.e.a0c) (a7e g.e.id g.eb rk.tg[i].T g.e.a0e))) c1 g w2) (hf:Desk.a1e s.ts (gAt s k).1 g.e.a0k g.e.a0c g.e.a0e=true)
  (ho:Off v.ownBlock.toList w2 w3) (hv':∀ c2,(∀ b,v.ownBlock=some b->c2 b=none)->(∀ b,w2.heap.size<=b->c2 b=none)->a2I w3 w.heap.size c2 v' ((gAt s k).2++[g.e.id])):
  GI w w3 d s r col v4 (k+1) v':=by
 obtain⟨x,l',c2,e1,e2,p1,p2,p3,p4⟩:=sp;have hfk:Desk.a1e s.ts (gAt s k).1 (s.es.filter Desk.a0T)[k].a0k (s.es.filter Desk.a0T)[k].a0c (s.es.filter Desk.a0T)[k].a0e=true:=by rw[<- hge];exact hf
 have e:gAt s (k+1)=(a0C g.e.id (gAt s k).1,(gAt s k).2++[g.e.id]):=by
  rw[b6V s hk'];unfold a5R;rw[if_pos hfk,hge]
 have hn:=h.dk.ni;have hO:=(h.of.book h.mid.tn h.mid.ids hn hg hk3 ((h.mid.en _ (h.of.mem hg)).ri) hi hname).1;have hnr1:=(h.nr.step q2 (zq _)).step p4 (zq _);have hvn:∀ b,v.ownBlock=some b->c2 b=none:=hnr1.no;have hD:DK w3 d _ c2:=p3.off ho (fun y hy=>hvn y (Option.mem_toList.1 hy));have st3:Step anyS w.heap.size c2 c2 w2 w3:=⟨⟨_,ho,fun y hy=>.inr ⟨hvn y (Option.mem_toList.1 hy),(hnr1.own.lt y (Option.mem_toList.1 hy)).1⟩⟩,fun _ _ h=>h,fun _ _ h=>.inl h⟩;have t1:=h.st.trans (q2.any h.st.size);have t2:=t1.trans (p4.any t1.size);obtain⟨G1,a1,a2⟩:=q2.left;obtain⟨G2,b1,b2⟩:=p4.left;have hrc1:∀ b,v4.ownBlock=some b->c1 b=some .wa:=fun b hb=>q2.a9i _ _ (h.rc b hb)
 have hrc2:∀ b,v4.ownBlock=some b->c2 b=some .wa:=fun b hb=>p4.a9i _ _ (hrc1 b hb)
 have hrow2:=a1i (a1i h.row a1 (fun b hb=>a2 b (.inl ⟨_,h.rc b hb,by simp⟩))) b1 (fun b hb=>b2 b (.inl ⟨_,hrc1 b hb,by unfold b1x;simp⟩));refine⟨_,c2,hD,⟨hO.now,hO.given,hO.ts,by rw[e];exact hO.es,by rw[e];exact hO.th,hO.tb⟩,h.hl.book (r:=rk) hn hg (by omega) e2 p1 p2,h.wl,?_,t2.trans st3,by rw[e];exact hv' c2 hvn (fun b hb=>p3.none hb),?_,fun y hy=>?_,a1i hrow2 ho (fun b hb hx=>?_),hrc2⟩
 ·rw[e];show a1R g.e.id 1 0 rk.eg=a8r ((gAt s k).2++[g.e.id]) r.eg;rw[h.eg,b8O]
 ·rw[e];exact c2K h.mid (h.of.mem hg) hk3 hf
 ·rw[e] at hy;rw[List.take_succ_eq_append_getElem hk'];rcases List.mem_append.1 hy with hy|hy
  ·obtain⟨z,hz,e3⟩:=h.gm y hy;exact⟨z,List.mem_append_left _ hz,e3⟩
  ·have:y=g.e.id:=List.mem_singleton.1 hy;exact⟨_,List.mem_append_right _ (List.mem_singleton.2 rfl),by rw[<- hge,this]⟩
 ·have:=hvn b (Option.mem_toList.1 hx);rw[hrc2 b hb] at this;cases this
theorem b7p{Gr:List Int}{g:EG}(hk:g.e.kind=3):((bkG Gr g).e.kind==1)=true↔g.e.id∈Gr:=by
 by_cases h:g.e.id∈Gr
 ·rw[a9R h];simp[h,a0Q]
 ·rw[a5k h];simp[h,hk]
theorem c6L(Gr:List Int)(g:EG):(bkG Gr g).eb=g.eb:=by
 by_cases h:g.e.id∈Gr
 ·rw[a9R h]
 ·rw[a5k h]
def b3R(eg:List EG)(Gr:List Int)(b:Nat):Bool:=eg.any fun g=>decide (g.eb=b) && Gr.any fun x=>decide (x=g.e.id)
theorem c7b(eg:List EG)(Gr:List Int)(hn:(eg.map (·.eb)).Nodup):∀ g∈eg,g.e.kind=3->(bkG Gr g).eb=g.eb/\((bkG Gr g).e.kind==1)=b3R eg Gr g.eb:=by
 intro g hg hk;refine⟨c6L Gr g,?_⟩;have h1:=b7p (Gr:=Gr) hk
 have h2:b3R eg Gr g.eb=true↔g.e.id∈Gr:=by
  unfold b3R;rw[List.any_eq_true];constructor
  ·rintro ⟨x,hx,e1⟩;rw[Bool.and_eq_true,decide_eq_true_iff,List.any_eq_true] at e1;obtain⟨e1,y,hy,e2⟩:=e1;have:x=g:=a0W _ hn hx hg e1;have e3:y=x.e.id:=of_decide_eq_true e2;rw[<- this,<- e3];exact hy
  ·intro h;refine⟨g,hg,?_⟩;rw[Bool.and_eq_true,decide_eq_true_iff,List.any_eq_true];exact⟨rfl,g.e.id,h,decide_eq_true rfl⟩
 cases ha:((bkG Gr g).e.kind==1) <;> cases hb:b3R eg Gr g.eb
 ·rfl
 ·exact absurd (h1.2 (h2.1 hb)) (by rw[ha];simp)
 ·exact absurd (h2.2 (h1.1 ha)) (by rw[hb];simp)
 ·rfl
theorem a5e(ts:List (ByteArray × Int)):∀ (l:List Ent)(p:List Ent × List Int),(l.foldl (a5R ts) p).2.length<=p.2.length+l.length
 |[],p=>by simp
 |e :: l,p=>by
  have ih:=a5e ts l (a5R ts p e);have:(a5R ts p e).2.length<=p.2.length+1:=by unfold a5R;split <;> simp
  simp only[List.foldl_cons,List.length_cons];omega
theorem c5g(s:St)(k:Nat):(gAt s k).2.length<=k:=by
 have:=a5e s.ts ((s.es.filter Desk.a0T).take k) (s.es,[]);have h2:=List.length_take_le k (s.es.filter Desk.a0T);unfold gAt;simp only[List.length_nil] at this;omega
theorem b3y(h:DK w d r col)(ho:Of s r)(hw:Wl r)(hh:Hl r)(hm:Mid s):
  Calls Tryz.prog 65 #[.pointer (some ⟨d,0,none⟩)] w fun e w'=>∃ v,e=.returned v/\a5o w d s col v w':=by
 obtain⟨i0,hi0,hz0,hz1,hz2⟩:=info_parts b1S;obtain⟨v4,c4,own4,hc4⟩:=h.wa
 have hwn:r.wl.length<=60:=by
  rw[hw,List.length_map];have h1:=List.length_filter_le (fun g:EG=>g.e.kind==3) r.eg;have h2:=a1x hm;have h3:r.eg.length=s.es.length:=by rw[<- ho.es];simp
  omega
 have G0:Hid (GI w w d s r col v4 0 (.slice none 0 0)):=⟨r,col,h,ho,hh,rfl,by rw[b6U,c1v],Step.refl _ _ _ _,a2I.nil _ _ _,hm,fun x hx=>by rw[b6U] at hx;simp at hx,own4,hc4⟩;have HH:=a0b (zA h (zA ho (zA hw (zA hh hm))))
 have hv:∃ a cap,v4=.slice a r.wl.length cap:=by
  rcases own4.2 with ⟨rfl,h⟩|⟨g,cap,_,rfl,_⟩
  ·rw[h];exact⟨_,_,rfl⟩
  ·exact⟨_,_,rfl⟩
 obtain⟨a,cap,rfl⟩:=hv;clear h ho hw hh hm own4 hc4
 go_enter Tryz.func65,Tryz.ntmps65
 go_wp2_with fail
 go_loopw [3,5,11] (fun vg _ vi wx=>∃ k:Nat,k<=r.wl.length/\vi=.int .i64 k/\GI w wx d s r col (.slice a r.wl.length cap) k vg) (fun _ _ vi _=>r.wl.length-(intOf vi).toNat)
 case atStart=>exact⟨0,Nat.zero_le _,rfl,G0.out⟩
 case round =>
  obtain⟨k,hk,rfl,rk,ck,X⟩:=hrel
  by_cases hlt:k<r.wl.length
  ·have hi0':(k:Int)<(r.wl.length:Int):=by omega
   obtain⟨g,hk',hgr,hgk,hgeb,hge,hk3,hno⟩:=X.next HH.out.2.1 HH.out.2.2.1 HH.out.2.2.2.2.ids hlt;obtain⟨Hh,cap',e1⟩:=Joins.ownsRow_form X.row (by omega);simp only[Value.slice.injEq,true_and] at e1;obtain⟨rfl,rfl⟩:=e1;have a0:=X.row.cellAt k (by omega);rw[List.getElem?_map,List.getElem?_eq_getElem hlt,Option.map_some,<- hgeb] at a0;unfold a5x at a0;obtain⟨q1,q2,q3⟩:=X.dk.en g hgk;have co:=q1.en.c1;obtain⟨i,hi,hname,htb⟩:=X.of.tb g hgk;have hEO:=X.mid.en _ (X.of.mem hgk);have hFit:=b4W X.mid X.of hEO hi;have hHF:=b3a X.mid X.of hEO.sp hEO.u1 hi hname;have hRM:=b1H X.mid X.of hi;have HX:=a0b X;have HG:=a0b (zA hgk (zA hge (zA hk3 (zA hname q2))))
   cases hf:Desk.a1e s.ts (gAt s k).1 g.e.a0k g.e.a0c g.e.a0e
   ·have TK:=a0b (b7e X.dk i hi q1 htb (by rw[q2];simp) (by rw[q3];simp) hFit (hHF.trans hf))
    have FN:Hid (Desk.a1e s.ts (gAt s k).1 (s.es.filter Desk.a0T)[k].a0k (s.es.filter Desk.a0T)[k].a0c (s.es.filter Desk.a0T)[k].a0e=false):=by
     show _=_;rw[<- hge];exact hf
    have HK:=a0b hk';clear hf hHF hFit hRM hEO q1 q2 q3 X hgk hge hk3 hname hno hgr hgeb htb
    go_wp2_with fail
    refine TK.out.mono ?_;rintro e w1 ⟨rfl,c1,p1,p2⟩;have HN:Hid (GI w w1 d s r col (.slice (some ⟨Hh,0,none⟩) r.wl.length cap) (k+1) u3):=⟨rk,c1,HX.out.no HK.out p1 p2 FN.out⟩;clear p1 p2 TK HX HG a0 co FN
    go_wp2_with fail
    go_roundw
    case rel=>exact⟨k+1,by omega,by go_num,HN.out⟩
    case measure=>simp[intOf];omega
   ·have hR0:c3L rk.tg[i].T g.e.id g.e.a0e:=⟨hRM.1,hRM.2,(X.of.book X.mid.tn X.mid.ids X.dk.ni hgk hk3 hEO.ri hi hname).2,a6b hEO.ri⟩;have TK:=a0b (b3F X.dk i hi q1 htb (by rw[q2];simp) (by rw[q3];simp) hFit hR0 (hHF.trans hf));have HF:=a0b hf;have hls:(gAt s k).2.length<=60:=by have:=c5g s k;omega
    have hlen:rk.hl.length<=1000:=by
     have h1:=X.hl.len
     have h2:rk.eg.length=(gAt s k).1.length:=by have:=X.of.es;rw[<- List.length_map (f:=(·.e)),this]
     have h3:=a1x X.mid;simp only at h3;omega
    have HSX:=a0b (zA X.hl.1 (zA hlen (X.hl.has hgk (by omega))));have HK:=a0b hk';clear hf hHF hFit hRM hEO q1 q2 q3 X hgk hge hk3 hno hgr hgeb htb hR0 hlen;have HNM:=a0b hname;clear hname
    go_wp2_with fail
    refine TK.out.mono ?_;rintro e w1 ⟨rfl,c1,p1,p2⟩;have ST:=a0b (b0w p1 HSX.out.1 HSX.out.2.1 (g:=g) HG.out.1 ⟨a9r g,HSX.out.2.2,rfl,rfl⟩);have P2:=a0b p2;clear p1 p2 TK a0 co
    go_wp2_with fail
    refine ST.out.mono ?_;rintro e w2 ⟨rfl,sp⟩;have SP:=a0b sp;obtain⟨x,l',c2,e1,e2,s1,s2,s3,s4⟩:=sp;have hmem:({ g with e:={ g.e with kind:=1,a0Z:=0 } }:EG)∈a1R g.e.id 1 0 rk.eg:=List.mem_map.2 ⟨g,HG.out.1,if_pos rfl⟩;have c02:w2.cell? ⟨g.eb,0,none⟩=some (.int .i64 g.e.id):=(s3.en _ hmem).1.en.c0;have NR:=a0b ((HX.out.nr.step P2.out (zq _)).step s4 (zq _));have hws:w.heap.size<=w2.heap.size:=zt (zt HX.out.st.size P2.out.size) s4.size;clear s1 s2 s3 s4 e1 e2 hmem ST
    go_wp2_with (first
     |(at_builtin;refine wpList_append_lies _ rfl _ _ 38 rfl w.heap.size 3 i0 _ 1 8 Tryz.underlying38 hi0 hz0 hz1 hz2 rfl (by decide) _ _ _ rfl (NR.out.own.alloc _) ⟨w2.heap.size,0,none⟩ 1 1 [.int .i64 g.e.id] rfl rfl (World.news_of_block (cs:=#[.int .i64 g.e.id]) (a0p w2 _)) (by simp[Value.oneCell']) (by omega) (by unfold maxLen;omega) (by omega) (by simp;omega) (w2.heap.size+1) (by simp) ?_;intro g2 cap2 w3 hown hgrow hat hlt2))
    have ko:Off u3.ownBlock.toList w2 w3:=Off.grown ((Off.refl _ w2).alloc _) hgrow (fun k hk=>.inl (Option.mem_toList.2 hk));have hat':u3.ownBlock=some g2\/g2=w2.heap.size+1:=hat
    have HN:Hid (GI w w3 d s r col (.slice (some ⟨Hh,0,none⟩) r.wl.length cap) (k+1) (.slice (some ⟨g2,0,none⟩) ((gAt s k).2.length+1) cap2)) :=
     HX.out.yes HK.out HG.out.1 HG.out.2.1 HG.out.2.2.1 hi HNM.out P2.out SP.out HF.out ko (fun c2 n1 n2=>⟨by rw[List.length_append,List.map_append];exact hown,fun b hb=>by
      have:g2=b:=by simpa[Value.ownBlock] using hb
      subst this;rcases hat' with e|e
      ·exact n1 g2 e
      ·exact n2 g2 (by omega)⟩)
    clear hown hgrow hat ko hat' HX HG HK SP NR P2 HNM HF HSX;go_roundw
    case rel=>exact⟨k+1,by omega,by go_num,HN.out⟩
    case measure=>simp[intOf];omega
  ·have hi1:¬ ((k:Int)<(r.wl.length:Int)):=by omega
   obtain⟨v,c4',own',hc'⟩:=X.dk.wa;have f4:=X.dk.fz 4;have hd:=X.dk.dc;have hvd:d ∉ v.ownBlock.toList:=fun e=>by have:=hc' _ (Option.mem_toList.1 e);rw[hd] at this;cases this
   have hkl:(s.es.filter Desk.a0T).length<=k:=by
    have h1:=HH.out.2.2.1
    have h2:s.es.filter Desk.a0T=(r.eg.filter fun g=>g.e.kind==3).map (·.e):=by rw[<- HH.out.2.1.es,List.filter_map];rfl
    rw[h2,List.length_map];rw[h1,List.length_map] at hlt;omega
   have hga:=c5h s HH.out.2.2.2.2.ids hkl;have PB:=a0b (c7b r.eg (gAt s k).2 HH.out.1.nd);generalize b3R r.eg (gAt s k).2=p at PB
   have DL:=a0b (c1e rk.wl p v wr (fun wx ko b hb=>by
    have hb':b∈r.wl:=by rw[<- X.wl];exact hb
    rw[HH.out.2.2.1] at hb';obtain⟨g,hg,rfl⟩:=List.mem_map.1 hb';obtain⟨hg1,hg2⟩:=List.mem_filter.1 hg;have hg3:g.e.kind=3:=by simpa using hg2
    have hmem:bkG (gAt s k).2 g∈rk.eg:=by rw[X.eg];exact List.mem_map.2 ⟨g,hg1,rfl⟩
    obtain⟨q1,q2,q3⟩:=X.dk.en _ hmem;have hkc:wx.cell? ⟨(bkG (gAt s k).2 g).eb,1,none⟩=some (.int .i64 (bkG (gAt s k).2 g).e.kind):=ko.cell (fun e=>by have:=hc' _ (Option.mem_toList.1 e);rw[q2] at this;cases this) q1.k;obtain⟨e1,e2⟩:=PB.out g hg1 hg3;rw[e1] at hkc;rw[<- e2]
    exact b3r g.eb _ wx hkc) own' (by rw[X.wl];omega))
   have VC:=a0b (zA hc' hvd);have HX:=a0b X;clear X own' hc' hvd hd
   go_wp2_with fail
   refine DL.out.mono ?_;rintro e w2 ⟨v',rfl,k1,k2,k3⟩
   obtain⟨va,vn,vc,rfl⟩:∃ a n cap,v'=.slice a n cap:=by
    rcases k2.2 with ⟨e,_⟩|⟨_,_,_,e,_⟩
    ·exact⟨_,_,_,e⟩
    ·exact⟨_,_,_,e⟩
   have c42:=k1.cell VC.out.2 c4';have f42:=(k1.frozen (o:=4) VC.out.2 (zb _ _ c4')).trans f4;have SW:=a0b (HX.out.dk.setWait VC.out.1 k1 k2 (fun b hb=>.inl (by rw[<- k3];exact hb)))
   have HF:Hid (a5o w d s col u3 (w2.setCell ⟨d,4,none⟩ (.slice va vn vc))):=by
    obtain⟨col2,q1,q2⟩:=SW.out;have X:=HX.out;refine⟨_,col2,q1,?_,?_,X.hl,X.st.trans (q2.any X.st.size),?_⟩
    ·have o:=X.of;rw[hga] at o;exact⟨o.now,o.given,o.ts,o.es,o.th,o.tb⟩
    ·show (rk.wl.filter fun b=>!p b)=(rk.eg.filter fun g=>g.e.kind==3).map (·.eb);rw[X.wl,HH.out.2.2.1,X.eg];exact c3G _ _ p (fun g hg hk=>by rw[<- (PB.out g hg hk).2];exact b7p hk)
    ·rw[<- hga];exact X.nr.step q2 (zq _)
   clear k1 k2 k3 DL c4' f4 SW HX VC PB HH
   go_wp2_with fail
   go_ret;exact⟨_,rfl,HF.out⟩
open Desk (Ent St Ids kept a0C a0Q a1C a2e ofB a0y a2c Mid a1H a0z)
def a5i(s:St)(t:Int):List Ent:=s.es.filter (a0z t)
def eAt(s:St)(t:Int)(k:Nat):List Ent:=((a5i s t).take k).foldl (fun es e=>kept e.id es) s.es
theorem c3p(s:St)(t:Int)(hk:k<(a5i s t).length):eAt s t (k+1)=kept (a5i s t)[k].id (eAt s t k):=by
 unfold eAt;rw[List.take_succ_eq_append_getElem hk,List.foldl_append];rfl
theorem c3h(l:List Ent):∀ es:List Ent,l.foldl (fun es e=>kept e.id es) es=es.filter fun x=>l.all fun e=>x.id != e.id:=by
 induction l with
 |nil=>intro es;exact (List.filter_eq_self.2 (fun _ _=>rfl)).symm
 |cons e l ih =>
  intro es;rw[List.foldl_cons,ih];unfold kept;rw[List.filter_filter];apply List.filter_congr;intro x _;rw[List.all_cons,Bool.and_comm]
theorem c0W(s:St)(t:Int)(k:Nat):eAt s t k=s.es.filter fun x=>((a5i s t).take k).all fun e=>x.id != e.id:=c3h _ _
theorem c5v(s:St)(t:Int)(hid:Ids s.es)(hk:(a5i s t).length<=k):eAt s t k=s.es.filter fun e=>!a0z t e:=by
 rw[c0W,List.take_of_length_le hk];apply List.filter_congr;intro x hx
 cases h:a0z t x
 ·rw[Bool.not_false,List.all_eq_true];intro e he;obtain⟨he1,he2⟩:=List.mem_filter.1 he
  have:x.id≠e.id:=fun e1=>by
   have:=hid.one hx he1 e1;subst this;rw[h] at he2;cases he2
  simpa using this
 ·rw[Bool.not_true]
  cases h2:(a5i s t).all fun e=>x.id != e.id
  ·rfl
  ·rw[List.all_eq_true] at h2;have:=h2 x (List.mem_filter.2 ⟨hx,h⟩);simp at this
theorem b2c:e∈eAt s t k↔e∈s.es/\∀ x∈(a5i s t).take k,e.id≠x.id:=by
 rw[c0W,List.mem_filter,List.all_eq_true];constructor
 ·rintro ⟨h1,h2⟩;exact⟨h1,fun x hx=>by simpa using h2 x hx⟩
 ·rintro ⟨h1,h2⟩;exact⟨h1,fun x hx=>by simpa using h2 x hx⟩
theorem c0T(hid:Ids s.es)(t:Int):(a5i s t).Pairwise fun a b=>a.id<b.id:=by
 have:=Desk.a5J (a0z t) hid;unfold Ids at this;rw[List.pairwise_map] at this;exact this
theorem c3q(hid:Ids s.es)(he:e∈eAt s t k)(hb:a0z t e=true)(hmin:∀ x∈eAt s t k,a0z t x=true->e.id<=x.id):∃ hk:k<(a5i s t).length,e=(a5i s t)[k]:=by
 obtain⟨h1,h2⟩:=b2c.1 he;have hm:e∈a5i s t:=List.mem_filter.2 ⟨h1,hb⟩;obtain⟨j,hj,rfl⟩:=List.getElem_of_mem hm;have hup:=List.pairwise_iff_getElem.1 (c0T hid t)
 have hjk:k<=j:=by
  by_cases c:j<k
  ·exact absurd rfl (h2 (a5i s t)[j] (by
    have:j<((a5i s t).take k).length:=by rw[List.length_take];omega
    have h3:=zg this
    rwa [List.getElem_take] at h3))
  ·omega
 have hk:k<(a5i s t).length:=by omega
 refine⟨hk,?_⟩
 by_cases c:j=k
 ·subst c;rfl
 ·have hkm:(a5i s t)[k]∈eAt s t k:=by
   refine b2c.2 ⟨(List.mem_filter.1 (zg hk)).1,fun x hx e1=>?_⟩;obtain⟨i,hi,rfl⟩:=List.getElem_of_mem hx;rw[List.getElem_take] at e1;rw[List.length_take] at hi;have:=hup i k (by omega) hk (by omega);omega
  have h4:=hmin _ hkm (List.mem_filter.1 (zg hk)).2;have h5:=hup k j hk hj (by omega);omega
theorem c4X(h:Mid s)(t:Int)(k:Nat):Mid { s with es:=eAt s t k }:=by
 rw[c0W]
 exact h.filter (given:=s.given) (now:=s.now) (ts:=s.ts) (es:=s.es) _ (Int.le_refl _) h.n1 (fun e he _ hk=>by
  rcases (h.en e he).kd with e1|e1
  ·exact absurd e1.1 hk
  ·exact e1.2.1)
structure EX(w wx:World)(d:Nat)(s:St)(col:Nat->Option Col)(t:Int)(k:Nat)(v:Value)(rk:Raw)(ck:Nat->Option Col):Prop where
 dk:DK wx d rk ck
 of:Of { s with es:=eAt s t k } rk
 hl:Hl rk
 wl:Wl rk
 st:Step anyS w.heap.size col ck w wx
 nr:a2I wx w.heap.size ck v (((a5i s t).take k).map fun e=>e.id)
def EI(w wx:World)(d:Nat)(s:St)(col:Nat->Option Col)(t:Int)(k:Nat)(v:Value):Prop:=∃ rk ck,EX w wx d s col t k v rk ck
def a7d(w:World)(d:Nat)(s:St)(col:Nat->Option Col)(t:Int)(v:Value)(w':World):Prop :=
 ∃ (r':Raw) (col':Nat->Option Col),DK w' d r' col'/\Of { s with es:=s.es.filter fun e=>!a0z t e } r'/\Wl r'/\Hl r'/\Step anyS w.heap.size col col' w w'/\a2I w' w.heap.size col' v ((s.es.filter (a0z t)).map fun e=>e.id)
theorem b5l(h:DK w d r col)(hh:Hl r)(hn:r.eg.length<=1000)(t:Int):
  Calls Tryz.prog 218 #[.pointer (some ⟨d,5,none⟩),.int .i64 t] w fun e w' =>
   ((∀ g∈r.eg,g.e.kind≠1->t<g.e.a0Z)/\e=.returned (.tuple #[.pointer none,.bool false])/\w'=w) \/
   (∃ g∈r.eg,g.e.kind≠1/\g.e.a0Z<=t/\(∀ x∈r.eg,x.e.kind≠1->¬ Hp.ahead (a9r x) (a9r g))/\e=.returned (.tuple #[.pointer (some ⟨g.eb,0,none⟩),.bool true])/\∃ l' col',Hp.a6r l'/\r.hl.Perm (a9r g :: l')/\DK w' d { r with hl:=l' } col'/\Step (fun c=>c=.he\/c=.desk) w.heap.size col col' w w'):=by
 obtain⟨v,a1,a2⟩:=h.he;have hlen:=hh.len;refine (b7P d 5 v r.hl t w a1 hh.1 (by omega)).mono ?_;rintro e w' (⟨h1,rfl,rfl⟩|⟨⟨h1,h2⟩,rfl,l',p,q1,q2⟩)
 ·refine .inl ⟨fun g hg hk=>?_,rfl,rfl⟩;have hm:=hh.has hg hk;rcases h1 with h1|h1
  ·rw[List.length_eq_zero_iff.1 h1] at hm;simp at hm
  ·obtain⟨i,hi,e⟩:=List.getElem_of_mem hm;have:=Hp.b4l hh.1 i hi;rw[Hp.a4H hi,e] at this;unfold Hp.ahead a9r at this;simp only at this;omega
 ·obtain⟨g,hg,hk,e⟩:=hh.at (x:=Hp.at_ r.hl 0) (by rw[Hp.a4H h1];exact zg h1);rw[e] at h2 q2 ⊢;refine .inr ⟨g,hg,hk,h2,fun x hx hkx=>?_,rfl,l',?_⟩
  ·obtain⟨i,hi,e2⟩:=List.getElem_of_mem (hh.has hx hkx);have:=Hp.b4l hh.1 i hi;rw[Hp.a4H hi,e2,e] at this;exact this
  ·obtain⟨col',k1,k2⟩:=h.heap a2 p;exact⟨col',q1,q2,k1,k2⟩
def b7y(w:World)(d:Nat)(s:St)(col:Nat->Option Col)(g:EG)(w':World):Prop :=
 ∃ (r':Raw) (col':Nat->Option Col),DK w' d r' col'/\Of { s with es:=kept g.e.id s.es } r'/\Wl r'/\Hl r'/\Step a5U w.heap.size col col' w w'
theorem a9f(h:DK w d r col)(ho:Of s r)(hw:Wl r)(hm:Mid s){g:EG}(hg:g∈r.eg)(hh:Hl { r with eg:=a1F g.e.id r.eg }):
  Calls Tryz.prog 150 #[.pointer (some ⟨d,0,none⟩),.pointer (some ⟨g.eb,0,none⟩)] w fun e w'=>e=.returned (.tuple #[])/\b7y w d s col g w':=by
 have hid:=hm.idb _ (ho.mem hg);have hg1:=hm.g1
 by_cases hk:g.e.kind=3
 ·refine (b8h h hg hk (by omega) (fun b hb=>?_) ?_).mono ?_
  ·rw[hw] at hb;obtain⟨x,hx,rfl⟩:=List.mem_map.1 hb;exact⟨x,(List.mem_filter.1 hx).1,rfl⟩
  ·rw[hw,List.length_map];have h1:=List.length_filter_le (fun g:EG=>g.e.kind==3) r.eg;have h2:=a1x hm;have h3:r.eg.length=s.es.length:=by rw[<- ho.es];simp
   omega
  ·rintro e w' ⟨rfl,col',q1,q2⟩;refine⟨rfl,_,col',q1,?_,hw.goes h.ni h.nd hg,hh,q2⟩;have o:=ho.goesW hm.ids h.ni hg hk;exact⟨o.now,o.given,o.ts,o.es,o.th,o.tb⟩
 ·obtain⟨i,hi,hname,htb⟩:=ho.tb g hg;have hRM:=b1H hm ho hi;refine (b8i h hg hk i hi htb (b4W hm ho (hm.en _ (ho.mem hg)) hi) hRM.1 hRM.2 (c2L hm ho hg hk hi hname) (by omega)).mono ?_;rintro e w' ⟨rfl,col',q1,q2⟩;exact⟨rfl,_,col',q1,ho.goes hm.tn hm.ids h.ni hg hk hi hname,hw.goes1 h.ni hg hk,hh,q2⟩
def lenOf:Value->Nat
 |.slice _ n _=>n
 |_=>0
theorem a2I.len(h:a2I w B col v l):lenOf v=l.length:=by
 obtain⟨a,cap,rfl⟩:=h.slice;rfl
theorem EX.gone(h:EX w wx d s col t k v rk ck)(hk:k<(a5i s t).length){g:EG}(hge:g.e=(a5i s t)[k])(p2:Step (fun c=>c=.he\/c=.desk) wx.heap.size ck c1 wx w1)(sp:b7y w1 d { s with es:=eAt s t k } c1 g w2)(ho:Off v.ownBlock.toList w2 w3)(hv':∀ c2,(∀ b,v.ownBlock=some b->c2 b=none)->(∀ b,w2.heap.size<=b->c2 b=none)->a2I w3 w.heap.size c2 v' ((((a5i s t).take k).map fun e=>e.id)++[g.e.id])):
  EI w w3 d s col t (k+1) v':=by
 obtain⟨r2,c2,q1,q2,q3,q4,q5⟩:=sp;have hnr:=(h.nr.step p2 (zq _)).step q5 (zq _);have hvn:∀ b,v.ownBlock=some b->c2 b=none:=hnr.no;have st3:Step anyS w.heap.size c2 c2 w2 w3:=⟨⟨_,ho,fun y hy=>.inr ⟨hvn y (Option.mem_toList.1 hy),(hnr.own.lt y (Option.mem_toList.1 hy)).1⟩⟩,fun _ _ h=>h,fun _ _ h=>.inl h⟩;have t1:=h.st.trans (p2.any h.st.size);have t2:=t1.trans (q5.any t1.size);refine⟨r2,c2,q1.off ho (fun y hy=>hvn y (Option.mem_toList.1 hy)),?_,q4,q3,t2.trans st3,?_⟩
 ·rw[c3p s t hk,<- hge];exact q2
 ·rw[List.take_succ_eq_append_getElem hk,List.map_append];have:[(a5i s t)[k]].map (fun e=>e.id)=[g.e.id]:=by rw[<- hge];rfl
  rw[this];exact hv' c2 hvn (fun b hb=>q1.none hb)
theorem c0U(h:DK w d r col)(ho:Of s r)(hw:Wl r)(hh:Hl r)(hm:Mid s)(t:Int)(ht:∀ e∈s.es,e.kind≠1->t<=e.a0Z):
  Calls Tryz.prog 156 #[.pointer (some ⟨d,0,none⟩),.int .i64 t] w fun e w'=>∃ v,e=.returned v/\a7d w d s col t v w':=by
 obtain⟨i0,hi0,hz0,hz1,hz2⟩:=info_parts b1S;have E0:Hid (EI w w d s col t 0 (.slice none 0 0)):=⟨r,col,h,ho,hh,hw,Step.refl _ _ _ _,a2I.nil _ _ _⟩;have HM:=a0b (zA hm ht);clear h ho hw hh hm ht
 go_enter Tryz.func156,Tryz.ntmps156
 go_wp2_with fail
 go_loopw [5,6,7] (fun vg _ _ wx=>∃ k:Nat,k<=(a5i s t).length/\EI w wx d s col t k vg) (fun vg _ _ _=>(a5i s t).length-lenOf vg)
 case atStart=>exact⟨0,Nat.zero_le _,E0.out⟩
 case round =>
  obtain⟨k,hk,rk,ck,X⟩:=hrel;have hMk:=c4X HM.out.1 t k
  have hcnt:rk.eg.length<=1000:=by
   have h2:rk.eg.length=(eAt s t k).length:=by have:=X.of.es;rw[<- List.length_map (f:=(·.e)),this]
   have h3:=a1x hMk;simp only at h3;omega
  have TB:=a0b (b5l X.dk X.hl hcnt t);have hlv:lenOf u5=k:=by rw[X.nr.len,List.length_map,List.length_take];omega
  have HX:=a0b X;have HMK:=a0b hMk;have HLV:=a0b hlv;clear X hMk hcnt hlv
  go_wp2_with fail
  refine TB.out.mono ?_;rintro e w1 (⟨h1,rfl,rfl⟩|⟨g,hg,hkd,htl,hmin,rfl,l',c1,s1,s2,s3,s4⟩)
  ·have HF:Hid (a7d w d s col t u5 w1):=by
    have X:=HX.out
    have hke:(a5i s t).length<=k:=by
     by_cases c:k<(a5i s t).length
     ·exfalso;obtain⟨m1,m2⟩:=List.mem_filter.1 (zg c)
      have hin:(a5i s t)[k]∈eAt s t k:=by
       refine b2c.2 ⟨m1,fun x hx e1=>?_⟩;obtain⟨j,hj,rfl⟩:=List.getElem_of_mem hx;rw[List.getElem_take] at e1;rw[List.length_take] at hj;have:=List.pairwise_iff_getElem.1 (c0T HM.out.1.ids t) j k (by omega) c (by omega);omega
      obtain⟨g,hg,e1⟩:=X.of.get hin;unfold a0z at m2;rw[<- e1,Bool.and_eq_true,decide_eq_true_iff] at m2;have:=h1 g hg (by simpa using m2.1);omega
     ·omega
    have e1:=c5v s t HM.out.1.ids hke;have o:=X.of;rw[e1] at o;have n:=X.nr;rw[List.take_of_length_le hke] at n;exact⟨rk,ck,X.dk,o,X.wl,X.hl,X.st,n⟩
   clear h1 TB HX
   go_wp2_with fail
   go_ret;exact⟨_,rfl,HF.out⟩
  ·have X:=HX.out
   have hge:∃ hk':k<(a5i s t).length,g.e=(a5i s t)[k]:=by
    have hin:=X.of.mem hg;have hes:=(b2c.1 hin).1;have htt:=HM.out.2 _ hes hkd;refine c3q HM.out.1.ids hin (by unfold a0z;rw[Bool.and_eq_true,decide_eq_true_iff];exact⟨by simpa using hkd,by omega⟩) (fun x hx hb=>?_);obtain⟨y,hy,rfl⟩:=X.of.get hx;unfold a0z at hb;rw[Bool.and_eq_true,decide_eq_true_iff] at hb;have:=hmin y hy (by simpa using hb.1);unfold Hp.ahead a9r at this;simp only at this;omega
   obtain⟨hk',hge⟩:=hge;have HLs:Hl { rk with hl:=l',eg:=a1F g.e.id rk.eg }:=X.hl.goes X.dk.ni hg hkd (x:=a9r g) rfl s1 s2;have LV:=a0b (a9f (r:={ rk with hl:=l' }) s3 ⟨X.of.now,X.of.given,X.of.ts,X.of.es,X.of.th,X.of.tb⟩ X.wl HMK.out hg HLs);have S4:=a0b (zA s4 (zA hge hk'));have EN:=a0b (s3.en g hg);clear s1 s2 s3 s4 hmin htl hge HLs X TB hkd hg
   go_wp2_with fail
   refine LV.out.mono ?_;rintro e w2 ⟨rfl,sp⟩;have SP:=a0b sp;obtain⟨r2,c2,q1,q2,q3,q4,q5⟩:=sp;have c02:=(q5.enk EN.out.1 (.inl ⟨_,EN.out.2.1,by unfold a5U;simp⟩) (.inl ⟨_,EN.out.2.2,by unfold a5U;simp⟩)).en.c0;have NR:=a0b ((HX.out.nr.step S4.out.1 (zq _)).step q5 (zq _));have hws:w.heap.size<=w2.heap.size:=zt (zt HX.out.st.size S4.out.1.size) q5.size
   have hkl:((a5i s t).take k).length<=60:=by
    have h1:=List.length_take_le k (a5i s t);have h2:=List.length_filter_le (a0z t) s.es;have h3:=a1x HM.out.1;have h4:(a5i s t).length<=60:=by unfold a5i;omega
    rw[List.length_take];omega
   have hkm:(((a5i s t).take k).map fun e=>e.id).length<=60:=by rw[List.length_map];exact hkl
   clear q1 q2 q3 q4 q5 LV EN hkl
   go_wp2_with (first
    |(at_builtin;refine wpList_append_lies _ rfl _ _ 38 rfl w.heap.size 3 i0 _ 1 8 Tryz.underlying38 hi0 hz0 hz1 hz2 rfl (by decide) _ _ _ rfl (NR.out.own.alloc _) ⟨w2.heap.size,0,none⟩ 1 1 [.int .i64 g.e.id] rfl rfl (World.news_of_block (cs:=#[.int .i64 g.e.id]) (a0p w2 _)) (by simp[Value.oneCell']) (by omega) (by unfold maxLen;omega) (by omega) (by simp;omega) (w2.heap.size+1) (by simp) ?_;intro g2 cap2 w3 hown hgrow hat hlt2))
   have ko:Off u5.ownBlock.toList w2 w3:=Off.grown ((Off.refl _ w2).alloc _) hgrow (fun k hk=>.inl (Option.mem_toList.2 hk));have hat':u5.ownBlock=some g2\/g2=w2.heap.size+1:=hat
   have HN:Hid (EI w w3 d s col t (k+1) (.slice (some ⟨g2,0,none⟩) ((((a5i s t).take k).map fun e=>e.id).length+1) cap2)) :=
    HX.out.gone S4.out.2.2 S4.out.2.1 S4.out.1 SP.out ko (fun c2 n1 n2=>⟨by rw[List.length_append,List.map_append];exact hown,fun b hb=>by
     have:g2=b:=by simpa[Value.ownBlock] using hb
     subst this;rcases hat' with e|e
     ·exact n1 g2 e
     ·exact n2 g2 (by omega)⟩)
   have hk1:k+1<=(a5i s t).length:=S4.out.2.2;have hl1:(((a5i s t).take k).map fun e=>e.id).length=k:=by rw[List.length_map,List.length_take];omega
   have HL1:=a0b hl1;have HLW:=a0b HLV.out;clear hown hgrow hat ko hat' HX SP NR S4 HMK hl1 hkm;go_roundw
   case rel=>exact⟨k+1,hk1,by have h:=HN.out;rw[HL1.out] at h;exact h⟩
   case measure =>
    have:=HL1.out;have:=HLW.out;simp[lenOf] at *;omega
namespace Desk
theorem b9g(h:Inv ⟨ts,es,given,now⟩)(hno:∀ e∈es,e.kind≠1->tq<e.a0Z)(k:Nat):a1K ts (k+1) es now tq=(es,[],[]):=by
 by_cases c:now<tq
 ·have e1:a3D tq es=tq:=by
   rcases (a5C tq es).2.2 with e|⟨e,he,hk,e1⟩
   ·exact e
   ·have:=hno e he hk;have:=(a5C tq es).1;omega
  have e2:es.filter (fun e=>!a0z tq e)=es:=List.filter_eq_self.2 (fun e he=>by
   cases hb:a0z tq e
   ·rfl
   ·unfold a0z at hb;rw[Bool.and_eq_true,decide_eq_true_iff] at hb;have:=hno e he (by simpa using hb.1)
    omega)
  have e3:es.filter (a0z tq)=[]:=by
   rw[List.filter_eq_nil_iff];intro e he hb;unfold a0z at hb;rw[Bool.and_eq_true,decide_eq_true_iff] at hb;have:=hno e he (by simpa using hb.1);omega
  have e4:=a9s h;simp only at e4;rw[a1K,if_pos c];simp only[e1,e2,e3,e4]
  cases k with
  |zero=>rfl
  |succ k=>rw[a1K,if_neg (by omega)];rfl
 ·rw[a1K,if_neg c]
theorem b9h(hn:now<t)(ht:t<=tq)(h1:∃ e∈es,e.kind≠1/\e.a0Z=t)(h2:∀ e∈es,e.kind≠1->t<=e.a0Z)(k:Nat):
  a1K ts (k+1) es now tq=((a1K ts k (a0R ts (es.filter fun e=>!a0z t e)).1 t tq).1,(es.filter (a0z t)).map (·.id)++(a1K ts k (a0R ts (es.filter fun e=>!a0z t e)).1 t tq).2.1,(a0R ts (es.filter fun e=>!a0z t e)).2++(a1K ts k (a0R ts (es.filter fun e=>!a0z t e)).1 t tq).2.2):=by
 have e1:a3D tq es=t:=by
  obtain⟨e,he,hk,rfl⟩:=h1;have:=(a5C tq es).2.1 e he hk;rcases (a5C tq es).2.2 with e2|⟨x,hx,hkx,e2⟩
  ·omega
  ·have:=h2 x hx hkx;omega
 rw[a1K,if_pos (by omega)];simp only[e1]
theorem c1Y(h:Inv ⟨ts,es,given,now⟩)(hn:now<t)(ht:t<=1048320)(h2:∀ e∈es,e.kind≠1->t<=e.a0Z):Inv ⟨ts,(a0R ts (es.filter fun e=>!a0z t e)).1,given,t⟩/\Mid ⟨ts,es.filter (fun e=>!a0z t e),given,t⟩:=by
 have hm:Mid ⟨ts,es.filter (fun e=>!a0z t e),given,t⟩:=h.mid.filter _ (by omega) ht (fun e he hp hk=>by
  have:=h2 e he hk
  by_cases c:e.a0Z=t
  ·have:a0z t e=true:=by unfold a0z;rw[Bool.and_eq_true,decide_eq_true_iff];exact⟨by simpa using hk,c⟩
   rw[this] at hp;cases hp
  ·omega)
 exact⟨a9t hm,hm⟩
theorem Mid.earlier{now':Int}(h:Mid ⟨ts,es,given,now⟩)(h0:0<=now')(hn:now'<=now):Mid ⟨ts,es,given,now'⟩:=by
 refine⟨h.tl,h.tu,h.tn,h.ids,h.idb,h.g0,h.g1,h0,?_,fun e he=>?_,h.th,h.wa,h.wi⟩
 ·have:=h.n1;simp only at *;omega
 ·have k:=h.en e he;refine⟨k.u1,k.u9,k.sl,k.s0,k.sp,k.ri,?_⟩;rcases k.kd with e1|⟨e1,e2,e3,e4⟩
  ·exact .inl e1
  ·exact .inr ⟨e1,by simp only at *;omega,e3,e4⟩
end Desk
def a0s(err at_ n:Int)(en da gr ed:Value):Value:=.agg #[.int .i64 err,.int .i64 at_,.int .i64 n,en,da,gr,ed]
structure Q7(Z:World)(Q:Nat):Prop where
 q0:Z.cell? ⟨Q,0,none⟩=some (.int .i64 0)
 q1:Z.cell? ⟨Q,1,none⟩=some (.int .i64 0)
 q2:Z.cell? ⟨Q,2,none⟩=some (.int .i64 0)
 q3:Z.cell? ⟨Q,3,none⟩=some (.slice none 0 0)
 q4:Z.cell? ⟨Q,4,none⟩=some (.slice none 0 0)
 q5:Z.cell? ⟨Q,5,none⟩=some (.slice none 0 0)
 q6:Z.cell? ⟨Q,6,none⟩=some (.slice none 0 0)
 fq:∀ o,Z.frozen? ⟨Q,o,none⟩=false
def a0f:Obj:=.cells #[.int .i64 0,.int .i64 0,.int .i64 0,.slice none 0 0,.slice none 0 0,.slice none 0 0,.slice none 0 0] 40 (0,0)
theorem Q7.of(h:w.heap[Q]?=some a0f):Q7 w Q:=by
 unfold a0f at h;refine⟨?_,?_,?_,?_,?_,?_,?_,fun o=>frozen_of_row _ Q o _ _ h⟩
 all_goals (simp only[World.cell?,h];rfl)
theorem Q7.later(h:Q7 w Q)(hb:w'.heap[Q]?=w.heap[Q]?):Q7 w' Q :=
 ⟨(zo hb).trans h.q0,(zo hb).trans h.q1,(zo hb).trans h.q2,(zo hb).trans h.q3,(zo hb).trans h.q4,(zo hb).trans h.q5,(zo hb).trans h.q6,fun o=>(World.frozen?_of_block hb).trans (h.fq o)⟩
def a2w(Z:World)(Q:Nat)(a b c d e f g:Value):World:=((((((Z.setCell ⟨Q,0,none⟩ a).setCell ⟨Q,1,none⟩ b).setCell ⟨Q,2,none⟩ c).setCell ⟨Q,3,none⟩ d).setCell ⟨Q,4,none⟩ e).setCell ⟨Q,5,none⟩ f).setCell ⟨Q,6,none⟩ g
theorem a2R(Z:World)(Q:Nat)(a b c d e f g:Value):Off [Q] Z (a2w Z Q a b c d e f g) :=
 (((((((Off.refl [Q] Z).setCell (.inl (by simp)) _ _).setCell (.inl (by simp)) _ _).setCell (.inl (by simp)) _ _).setCell (.inl (by simp)) _ _).setCell (.inl (by simp)) _ _).setCell (.inl (by simp)) _ _).setCell (.inl (by simp)) _ _
theorem a2q(a:Obj):Below w.heap.size w ((w.alloc a).alloc a0f)/\((w.alloc a).alloc a0f).heap[w.heap.size+1]?=some a0f:=by
 refine⟨((zr _ _).alloc (zq _) _).alloc (by simp) _,?_⟩;have:=a0p (w.alloc a) a0f
 rwa [World.size_alloc] at this
def c3U(n:Int)(gr ed:Value):Array Value:=#[.int .i64 0,.int .i64 0,.int .i64 n,.slice none 0 0,.slice none 0 0,gr,ed]
theorem a2I.base(h:a2I w B col v l)(hb:B'<=B):a2I w B' col v l:=⟨Joins.ownsRow_le h.own hb,h.no⟩
theorem a2I.append{u:Value}{m:List Int}(h:a2I w B col v l)(k:a2I w B col u m)(hB:B<=w.heap.size)(hc:∀ b,w.heap.size<=b->col b=none)(hl:l.length+m.length<=100000):
  ∃ (v':Value) (w':World),(∀ ty,(Builtin.append_ #[38,38] ty #[v,u]).run Tryz.prog w=.ok v' w')/\a2I w' B col v' (l++m)/\w.grownBy w' v.ownBlock/\(v'.ownBlock=v.ownBlock\/v'.ownBlock=some w.heap.size):=by
 obtain⟨i0,hi0,hz0,hz1,hz2⟩:=info_parts b1S;rcases k.own.2 with ⟨rfl,h0⟩|⟨g,cap,cur,rfl,hb,hh,h1,h2,h3,h4⟩
 ·have hm:m=[]:=List.length_eq_zero_iff.1 h0;subst hm;refine⟨v,w,fun ty=>run_append_owned_none (P:=Tryz.prog) w B 38 ty 3 i0 1 Tryz.underlying38 hi0 v l.length _ h.own,by rw[List.append_nil];exact h,⟨rfl,rfl,rfl,Nat.le_refl _,fun _ _ _=>rfl⟩,.inl rfl⟩
 ·have key:=fun ty=>run_append_own_at (P:=Tryz.prog) w B 38 ty 3 i0 _ 1 8 Tryz.underlying38 hi0 hz0 hz1 hz2 rfl (by decide) v l.length _ h.own ⟨g,0,none⟩ m.length cap (m.map (Value.int .i64)) (by simp) (fun j x hx=>by
   have hj:j<m.length:=by
    have:=List.getElem?_eq_some_iff.1 hx;obtain⟨h,_⟩:=this
    simpa using h
   have e:=k.own.cellAt j (by omega);have hadd:(⟨g,0,none⟩:Addr).add j=⟨g,j,none⟩:=by unfold Addr.add;split <;> simp_all
   rw[hadd,e];exact hx) (by
   intro x hx;obtain⟨y,_,rfl⟩:=List.mem_map.1 hx
   rfl) (by unfold maxLen;omega) (by omega) hB
  obtain⟨v',w',r1,r2,r3,r4,r5⟩:=key 0;refine⟨v',w',fun ty=>?_,⟨by rw[List.length_append,List.map_append];exact r2,fun b hb=>?_⟩,r3,r5⟩
  ·exact r1
  ·rcases r5 with e|e
   ·exact h.no b (by rw[<- e];exact hb)
   ·rw[hb] at e
    cases e
    exact hc _ (zq _)
theorem b1n{P:Program}{o:Oper}{a:Act}{K:Act->World->Prop}{Q:Exit->Act->World->Prop}(s x:Operand)(t:TypeId)(v':Value)
  (ho:o.op=.call { callee:=.builtin .append,args:=#[s,x],argTypes:=#[t,t] }) (hrun:(Builtin.append_ #[t,t] o.type #[a.eval s,a.eval x]).run P w=.ok v' w') (h:K (a.put o.dst v') w'):o.wp P a w K Q:=by
 unfold Oper.wp execOp;simp only[ho,resolve,invoke,builtin,Sem.run_bind,Sem.run_pure,Result.andThen_ok,List.map_toArray,List.map_cons,List.map_nil,hrun];exact h
theorem a3u{P:Program}{ops:Array Oper}{o:Oper}{a:Act}{K:Act->World->Prop}{Q:Exit->Act->World->Prop}{E:Prop}(hgd:o.guard=none)(s x:Operand)(t:TypeId)(v':Value)
  (ho:o.op=.call { callee:=.builtin .append,args:=#[s,x],argTypes:=#[t,t] }) (hrun:(Builtin.append_ #[t,t] o.type #[a.eval s,a.eval x]).run P w=.ok v' w') (h:K (a.put o.dst v') w'):
  if Region.wanted o (yielded ops a.tmps)=true then Oper.wp P o a w K Q else E:=by
 have hw:Region.wanted o (yielded ops a.tmps)=true:=by simp[Region.wanted,hgd]
 rw[if_pos hw];exact b1n s x t v' ho hrun h
theorem a2k{P:Program}{ops:Array Oper}{o:Oper}{a:Act}{K:Act->World->Prop}{Q:Exit->Act->World->Prop}{E:Prop}(hgd:o.guard=none)(f:FuncId)(xs:Array Operand)(ats:Array TypeId)
  (ho:o.op=.call { callee:=.value (.func f),args:=xs,argTypes:=ats }) (args:Array Value) (ha:xs.map a.eval=args) (he:(callFunc f args).run P w=.ok (.enter f args) w) {R:Ending->World->Prop}(hc:Calls P f args w R) (h:∀ e w',R e w'->∃ v,e=.returned v/\K (a.put o.dst v) w'):
  if Region.wanted o (yielded ops a.tmps)=true then Oper.wp P o a w K Q else E:=by
 have hw:Region.wanted o (yielded ops a.tmps)=true:=by simp[Region.wanted,hgd]
 rw[if_pos hw];unfold Oper.wp
 have e1:(execOp a.eval o).run P w=.ok (.enter f args) w:=by
  simp[execOp,ho,resolve,invoke,Act.eval,Deferred.ofValue,ha,he]
 rw[e1,Oper.upon_enter];refine hc.mono ?_;intro e w' hR;obtain⟨v,rfl,hK⟩:=h e w' hR;exact hK
structure RB(w:World)(B:Nat)(col:Nat->Option Col)(R Q:Nat)(n:Int)(vG vE:Value)(G E:List Int):Prop where
 r:w.heap[R]?=some (.cells (c3U n vG vE) 40 (0,0))
 q:w.heap[Q]?=some (.cells (c3U 0 (.slice none 0 0) (.slice none 0 0)) 40 (0,0))
 rc:col R=none
 qc:col Q=none
 rb:B<=R
 qb:B<=Q
 rq:R≠Q
 g:a2I w B col vG G
 e:a2I w B col vE E
 ge:∀ b,vG.ownBlock=some b->vE.ownBlock≠some b/\b≠R/\b≠Q
 er:∀ b,vE.ownBlock=some b->b≠R/\b≠Q
theorem a6f{o:Obj}(h:w.heap[b]?=some o):b<w.heap.size:=by
 by_cases hx:b<w.heap.size
 ·exact hx
 ·rw[Array.getElem?_eq_none (by omega)] at h;cases h
theorem RB.step{S:Col->Prop}{col':Nat->Option Col}(h:RB w B col R Q n vG vE G E)(st:Step S B' col col' w w')(hB:w.heap.size<=B'):RB w' B col' R Q n vG vE G E:=by
 have hr:=a6f h.r;have hq:=a6f h.q;exact⟨(st.blockN hr h.rc (by omega)).trans h.r,(st.blockN hq h.qc (by omega)).trans h.q,st.keepN h.rc (by omega),st.keepN h.qc (by omega),h.rb,h.qb,h.rq,h.g.step st hB,h.e.step st hB,h.ge,h.er⟩
theorem RB.later(h:RB w B col R Q n vG vE G E)(k:Below w.heap.size w w'):RB w' B col R Q n vG vE G E:=h.step (Step.below (S:=anyS) (B:=w.heap.size) k) (zq _)
theorem RB.cells(h:RB w B col R Q n vG vE G E):w.cell? ⟨R,5,none⟩=some vG/\w.cell? ⟨R,6,none⟩=some vE/\∀ o,w.frozen? ⟨R,o,none⟩=false:=by
 refine⟨?_,?_,fun o=>?_⟩
 ·simp[World.cell?,h.r,c3U]
 ·simp[World.cell?,h.r,c3U]
 ·exact frozen_of_row w R o _ _ h.r
theorem RB.growE{E':List Int}(h:RB w B col R Q n vG vE G E)(hn:a2I w1 B col v E')(hg:w.grownBy w1 vE.ownBlock)(hat:v.ownBlock=vE.ownBlock\/v.ownBlock=some w.heap.size):
  RB (w1.setCell ⟨R,6,none⟩ v) B col R Q n vG v G E'/\Off (R :: vE.ownBlock.toList) w (w1.setCell ⟨R,6,none⟩ v)/\w1.cell? ⟨R,6,none⟩=some vE/\w1.frozen? ⟨R,6,none⟩=false:=by
 have hrl:=a6f h.r;have hql:=a6f h.q;have k:Off vE.ownBlock.toList w w1:=Off.grown (Off.refl _ w) hg (fun k hk=>.inl (Option.mem_toList.2 hk));have hRE:R ∉ vE.ownBlock.toList:=fun e=>(h.er R (Option.mem_toList.1 e)).1 rfl
 have hQE:Q ∉ vE.ownBlock.toList:=fun e=>(h.er Q (Option.mem_toList.1 e)).2 rfl
 have r1:=(k.block R hrl hRE).trans h.r;have q1:=(k.block Q hql hQE).trans h.q
 have hvR:∀ b,v.ownBlock=some b->b≠R/\b≠Q:=fun b hb=>by
  rcases hat with e|e
  ·exact h.er b (by rw[<- e];exact hb)
  ·rw[hb] at e;cases e;omega
 have hGE:∀ b,vG.ownBlock=some b->b ∉ vE.ownBlock.toList:=fun b hb e=>(h.ge b hb).1 (Option.mem_toList.1 e)
 refine⟨⟨?_,?_,h.rc,h.qc,h.rb,h.qb,h.rq,⟨?_,h.g.no⟩,⟨?_,hn.no⟩,fun b hb=>⟨fun e=>?_,(h.ge b hb).2⟩,hvR⟩,?_,?_,?_⟩
 ·have:=heap_setCell_same w1 R 6 _ _ v r1;rw[this];simp[c3U]
 ·exact (heap_setCell_other w1 ⟨R,6,none⟩ Q v (by simpa using h.rq.symm)).trans q1
 ·exact a1i (a1i h.g.own k hGE) (Off.set0 R _ 6 _) (fun b hb=>by simpa using (h.ge b hb).2.1)
 ·exact a1i hn.own (Off.set0 R _ 6 _) (fun b hb=>by simpa using (hvR b hb).1)
 ·rcases hat with e2|e2
  ·exact (h.ge b hb).1 (by rw[<- e2];exact e)
  ·have h1:=(h.g.own.lt b hb).2;rw[e] at e2;cases e2;omega
 ·exact (k.mono (by simp +contextual)).setCell (.inl (by simp)) _ _
 ·simp[World.cell?,r1,c3U]
 ·exact frozen_of_row w1 R 6 _ _ r1
theorem RB.growG{G':List Int}(h:RB w B col R Q n vG vE G E)(hn:a2I w1 B col v G')(hg:w.grownBy w1 vG.ownBlock)(hat:v.ownBlock=vG.ownBlock\/v.ownBlock=some w.heap.size):
  RB (w1.setCell ⟨R,5,none⟩ v) B col R Q n v vE G' E/\Off (R :: vG.ownBlock.toList) w (w1.setCell ⟨R,5,none⟩ v)/\w1.cell? ⟨R,5,none⟩=some vG/\w1.frozen? ⟨R,5,none⟩=false:=by
 have hrl:=a6f h.r;have hql:=a6f h.q;have k:Off vG.ownBlock.toList w w1:=Off.grown (Off.refl _ w) hg (fun k hk=>.inl (Option.mem_toList.2 hk));have hRE:R ∉ vG.ownBlock.toList:=fun e=>(h.ge R (Option.mem_toList.1 e)).2.1 rfl
 have hQE:Q ∉ vG.ownBlock.toList:=fun e=>(h.ge Q (Option.mem_toList.1 e)).2.2 rfl
 have r1:=(k.block R hrl hRE).trans h.r;have q1:=(k.block Q hql hQE).trans h.q
 have hvR:∀ b,v.ownBlock=some b->b≠R/\b≠Q:=fun b hb=>by
  rcases hat with e|e
  ·exact (h.ge b (by rw[<- e];exact hb)).2
  ·rw[hb] at e;cases e;omega
 have hGE:∀ b,vE.ownBlock=some b->b ∉ vG.ownBlock.toList:=fun b hb e=>(h.ge b (Option.mem_toList.1 e)).1 hb
 refine⟨⟨?_,?_,h.rc,h.qc,h.rb,h.qb,h.rq,⟨?_,hn.no⟩,⟨?_,h.e.no⟩,fun b hb=>⟨fun e=>?_,hvR b hb⟩,h.er⟩,?_,?_,?_⟩
 ·have:=heap_setCell_same w1 R 5 _ _ v r1;rw[this];simp[c3U]
 ·exact (heap_setCell_other w1 ⟨R,5,none⟩ Q v (by simpa using h.rq.symm)).trans q1
 ·exact a1i hn.own (Off.set0 R _ 5 _) (fun b hb=>by simpa using (hvR b hb).1)
 ·exact a1i (a1i h.e.own k hGE) (Off.set0 R _ 5 _) (fun b hb=>by simpa using (h.er b hb).1)
 ·rcases hat with e2|e2
  ·exact (h.ge b (by rw[<- e2];exact hb)).1 e
  ·have h1:=(h.e.own.lt b e).2;rw[hb] at e2;cases e2;omega
 ·exact (k.mono (by simp +contextual)).setCell (.inl (by simp)) _ _
 ·simp[World.cell?,r1,c3U]
 ·exact frozen_of_row w1 R 5 _ _ r1
open Desk (Ent St Ids kept a0C a0Q a1C a2e ofB a0y a2c Mid a1H a0z Inv)
structure TD(w wx:World)(d:Nat)(s:St)(col:Nat->Option Col)(R Q:Nat)(tq:Int)(esc:List Ent)(G E:List Int)(vG vE:Value):Prop where
 ex:∃ rk ck,DK wx d rk ck/\Of { s with es:=esc } rk/\Wl rk/\Hl rk/\Step anyS w.heap.size col ck w wx/\RB wx w.heap.size ck R Q tq vG vE G E
structure TK(s:St)(tq:Int)(esc:List Ent)(nowc:Int)(G E:List Int)(K:Nat):Prop where
 inv:Inv ⟨s.ts,esc,s.given,nowc⟩
 n1:s.now<=nowc
 n2:nowc<=tq
 len:esc.length<=K
 cnt:E.length+esc.length<=s.es.length
 gl:G.length<=60*E.length
 tk:Desk.a1K s.ts (s.es.length+1) s.es s.now tq=((Desk.a1K s.ts (K+1) esc nowc tq).1,E++(Desk.a1K s.ts (K+1) esc nowc tq).2.1,G++(Desk.a1K s.ts (K+1) esc nowc tq).2.2)
theorem TK.mid{K:Nat}(h:TK s tq esc nowc G E K)(h0:0<=s.now):Mid { s with es:=esc }:=(h.inv.mid).earlier h0 h.n1
theorem TK.stop{K:Nat}(h:TK s tq esc nowc G E K)(hno:∀ e∈esc,e.kind≠1->tq<e.a0Z):Desk.a1K s.ts (s.es.length+1) s.es s.now tq=(esc,E,G):=by
 rw[h.tk,Desk.b9g h.inv hno];simp
theorem TK.next{K:Nat}(h:TK s tq esc nowc G E K)(htq:tq<=1048320)(ht:t<=tq)(h1:∃ e∈esc,e.kind≠1/\e.a0Z=t)(h2:∀ e∈esc,e.kind≠1->t<=e.a0Z):
  ∃ K',TK s tq (Desk.a0R s.ts (esc.filter fun e=>!a0z t e)).1 t (G++(Desk.a0R s.ts (esc.filter fun e=>!a0z t e)).2) (E++(esc.filter (a0z t)).map fun e=>e.id) K'/\Mid ⟨s.ts,esc.filter (fun e=>!a0z t e),s.given,t⟩/\nowc<t:=by
 obtain⟨e0,he0,hk0,ht0⟩:=h1
 have hnt:nowc<t:=by
  rcases (h.inv.en e0 he0).kd with e|e
  ·exact absurd e.1 hk0
  ·have:=e.2.1;simp only at this;omega
 obtain⟨i1,i2⟩:=Desk.c1Y h.inv hnt (by omega) h2
 have hsplit:(esc.filter (a0z t)).length+(esc.filter fun e=>!a0z t e).length=esc.length:=by
  have:∀ l:List Ent,(l.filter (a0z t)).length+(l.filter fun e=>!a0z t e).length=l.length:=by
   intro l
   induction l with
   |nil=>rfl
   |cons x l ih=>simp only[List.filter_cons];cases a0z t x <;> simp <;> omega
  exact this esc
 have hpos:0<(esc.filter (a0z t)).length:=List.length_pos_iff.2 (fun e=>by
  have:e0∈esc.filter (a0z t):=List.mem_filter.2 ⟨he0,by unfold a0z;rw[Bool.and_eq_true,decide_eq_true_iff];exact⟨by simpa using hk0,ht0⟩⟩
  rw[e] at this;simp at this)
 have hlen:=h.len;have hcnt:=h.cnt;have hgl:=h.gl;obtain⟨K',rfl⟩:∃ K',K=K'+1:=⟨K-1,by omega⟩;have hgL:=Desk.a7H s.ts (esc.filter fun e=>!a0z t e)
 have hg2:(Desk.a0R s.ts (esc.filter fun e=>!a0z t e)).2.length<=60:=by
  have e1:=Desk.a5F s.ts (esc.filter fun e=>!a0z t e) i2.ids;rw[e1];have h1:=a5e s.ts ((esc.filter fun e=>!a0z t e).filter Desk.a0T) (esc.filter fun e=>!a0z t e,[]);have h2:=List.length_filter_le Desk.a0T (esc.filter fun e=>!a0z t e);have h3:=a1x i2;simp only[List.length_nil] at h1 h3;omega
 refine⟨K',⟨i1,by have:=h.n1;omega,ht,by omega,?_,?_,?_⟩,i2,hnt⟩
 ·rw[List.length_append,List.length_map];omega
 ·rw[List.length_append,List.length_append,List.length_map];omega
 ·rw[h.tk,Desk.b9h hnt ht ⟨e0,he0,hk0,ht0⟩ h2];simp only[List.append_assoc]
theorem TD.ended(hs:Step anyS w.heap.size col ck w wx)(hr:RB wx w.heap.size ck R Q tq vG vE G E)(p:a7d wx d { s with es:=esc } ck t v2 w4)(hb:E.length+esc.length<=1000):
  ∃ a n cap w5,(∀ ty,(Builtin.append_ #[38,38] ty #[vE,v2]).run Tryz.prog w4=.ok (.slice a n cap) w5)/\w5.cell? ⟨R,6,none⟩=some vE/\w5.frozen? ⟨R,6,none⟩=false/\w4.cell? ⟨R,6,none⟩=some vE/\TD w (w5.setCell ⟨R,6,none⟩ (.slice a n cap)) d s col R Q tq (esc.filter fun e=>!a0z t e) G (E++(esc.filter (a0z t)).map fun e=>e.id) vG (.slice a n cap):=by
 obtain⟨r4,c4,q1,q2,q3,q4,q5,q6⟩:=p;have hr4:=hr.step q5 (zq _);have hsz:=hs.size;have hf:=List.length_filter_le (a0z t) esc;obtain⟨v3,w5,a1,a2,a3,a4⟩:=hr4.e.append (q6.base hsz) (zt hsz q5.size) (fun b hb=>q1.none hb) (by rw[List.length_map];show E.length+(esc.filter (a0z t)).length<=100000;omega);obtain⟨a,cap,rfl⟩:=a2.slice;obtain⟨b1,b2,b3,b4⟩:=hr4.growE a2 a3 a4;refine⟨a,_,cap,w5,a1,b3,b4,hr4.cells.2.1,r4,c4,?_,q2,q3,q4,?_,b1⟩
 ·refine q1.off b2 (fun x hx=>?_);rcases List.mem_cons.1 hx with rfl|hx
  ·exact hr4.rc
  ·exact hr4.e.no x (Option.mem_toList.1 hx)
 ·have t1:=hs.trans (q5.any hsz);refine t1.trans ⟨⟨_,b2,fun x hx=>.inr ?_⟩,fun _ _ h=>h,fun _ _ h=>.inl h⟩;rcases List.mem_cons.1 hx with rfl|hx
  ·exact⟨hr4.rc,hr4.rb⟩
  ·exact⟨hr4.e.no x (Option.mem_toList.1 hx),(hr4.e.own.lt x (Option.mem_toList.1 hx)).1⟩
theorem TD.granted(hs:Step anyS w.heap.size col ck w wx)(hr:RB wx w.heap.size ck R Q tq vG vE G E)(p:a5o wx d { s with es:=esc } ck v2 w4)(hb:G.length+(Desk.a0R s.ts esc).2.length<=100000):
  ∃ a n cap w5,(∀ ty,(Builtin.append_ #[38,38] ty #[vG,v2]).run Tryz.prog w4=.ok (.slice a n cap) w5)/\w5.cell? ⟨R,5,none⟩=some vG/\w5.frozen? ⟨R,5,none⟩=false/\w4.cell? ⟨R,5,none⟩=some vG/\TD w (w5.setCell ⟨R,5,none⟩ (.slice a n cap)) d s col R Q tq (Desk.a0R s.ts esc).1 (G++(Desk.a0R s.ts esc).2) E (.slice a n cap) vE:=by
 obtain⟨r4,c4,q1,q2,q3,q4,q5,q6⟩:=p;have hr4:=hr.step q5 (zq _);have hsz:=hs.size;obtain⟨v3,w5,a1,a2,a3,a4⟩:=hr4.g.append (q6.base hsz) (zt hsz q5.size) (fun b hb=>q1.none hb) hb;obtain⟨a,cap,rfl⟩:=a2.slice;obtain⟨b1,b2,b3,b4⟩:=hr4.growG a2 a3 a4;refine⟨a,_,cap,w5,a1,b3,b4,hr4.cells.1,r4,c4,?_,q2,q3,q4,?_,b1⟩
 ·refine q1.off b2 (fun x hx=>?_);rcases List.mem_cons.1 hx with rfl|hx
  ·exact hr4.rc
  ·exact hr4.g.no x (Option.mem_toList.1 hx)
 ·have t1:=hs.trans (q5.any hsz);refine t1.trans ⟨⟨_,b2,fun x hx=>.inr ?_⟩,fun _ _ h=>h,fun _ _ h=>.inl h⟩;rcases List.mem_cons.1 hx with rfl|hx
  ·exact⟨hr4.rc,hr4.rb⟩
  ·exact⟨hr4.g.no x (Option.mem_toList.1 hx),(hr4.g.own.lt x (Option.mem_toList.1 hx)).1⟩
theorem a0D(err:Int)(w:World):
  Calls Tryz.prog 141 #[.int .i64 err] w fun e w'=>e=.returned (a0s err 0 0 (.slice none 0 0) (.slice none 0 0) (.slice none 0 0) (.slice none 0 0))/\Below w.heap.size w w':=by
 go_enter Tryz.func141,Tryz.ntmps141
 have HB:Hid (Below w.heap.size w (w.alloc (.cells #[.int .i64 err,.int .i64 0,.int .i64 0,.slice none 0 0,.slice none 0 0,.slice none 0 0,.slice none 0 0] 40))):=(zr _ _).alloc (zq _) _
 go_wp2_with fail
 exact bodyPost_ret (v:=a0s err 0 0 (.slice none 0 0) (.slice none 0 0) (.slice none 0 0) (.slice none 0 0)) (by simp[results,Tryz.results141,go_sem,a0s]) rfl ⟨rfl,HB.out⟩
theorem b8J(h:DK w d r col)(hh:Hl r):
  Calls Tryz.prog 155 #[.pointer (some ⟨d,5,none⟩)] w fun e w'=>w'=w /\
   ((e=.returned (.tuple #[.int .i64 0,.bool false])/\∀ g∈r.eg,g.e.kind=1)\/∃ g∈r.eg,g.e.kind≠1/\e=.returned (.tuple #[.int .i64 g.e.a0Z,.bool true])/\∀ x∈r.eg,x.e.kind≠1->g.e.a0Z<=x.e.a0Z):=by
 obtain⟨v,a1,a2⟩:=h.he;refine (b0P d 5 v r.hl w a1).mono ?_;rintro e w' ⟨rfl,rfl⟩;refine⟨rfl,?_⟩
 by_cases h0:r.hl.length=0
 ·refine .inl ⟨by simp[c6P,c5M,h0],fun g hg=>?_⟩
  by_cases hk:g.e.kind=1
  ·exact hk
  ·have:=hh.has hg hk;rw[List.length_eq_zero_iff.1 h0] at this;simp at this
 ·have hp:0<r.hl.length:=by omega
  obtain⟨g,hg,hk,e⟩:=hh.at (x:=Hp.at_ r.hl 0) (by rw[Hp.a4H hp];exact zg hp);refine .inr ⟨g,hg,hk,by rw[b1V hp,b1W hp,e];rfl,fun x hx hkx=>?_⟩;obtain⟨i,hi,e2⟩:=List.getElem_of_mem (hh.has hx hkx);have:=Hp.b4l hh.1 i hi;rw[Hp.a4H hi,e2,e] at this;unfold Hp.ahead a9r at this;simp only at this;omega
structure R7(Z:World)(R Q:Nat)(n:Int)(vG vE:Value):Prop where
 r0:Z.cell? ⟨R,0,none⟩=some (.int .i64 0)
 r1:Z.cell? ⟨R,1,none⟩=some (.int .i64 0)
 r2:Z.cell? ⟨R,2,none⟩=some (.int .i64 n)
 r3:Z.cell? ⟨R,3,none⟩=some (.slice none 0 0)
 r4:Z.cell? ⟨R,4,none⟩=some (.slice none 0 0)
 r5:Z.cell? ⟨R,5,none⟩=some vG
 r6:Z.cell? ⟨R,6,none⟩=some vE
 q0:Z.cell? ⟨Q,0,none⟩=some (.int .i64 0)
 q1:Z.cell? ⟨Q,1,none⟩=some (.int .i64 0)
 q2:Z.cell? ⟨Q,2,none⟩=some (.int .i64 0)
 q3:Z.cell? ⟨Q,3,none⟩=some (.slice none 0 0)
 q4:Z.cell? ⟨Q,4,none⟩=some (.slice none 0 0)
 q5:Z.cell? ⟨Q,5,none⟩=some (.slice none 0 0)
 q6:Z.cell? ⟨Q,6,none⟩=some (.slice none 0 0)
 fq:∀ o,Z.frozen? ⟨Q,o,none⟩=false
theorem RB.r7(h:RB w B col R Q n vG vE G E):R7 w R Q n vG vE:=by
 refine⟨?_,?_,?_,?_,?_,?_,?_,?_,?_,?_,?_,?_,?_,?_,fun o=>frozen_of_row _ Q o _ _ h.q⟩
 all_goals first
  |(simp only[World.cell?,h.r];rfl)
  |(simp only[World.cell?,h.q];rfl)
def a7b(w:World)(d:Nat)(s:St)(col:Nat->Option Col)(n:Int)(v:Value)(w':World):Prop :=
 ∃ (r':Raw) (col':Nat->Option Col) (vG vE:Value),v=a0s 0 0 (s.now+n) (.slice none 0 0) (.slice none 0 0) vG vE/\DK w' d r' col'/\Of (Desk.a0g s (.tick n)).1 r'/\Wl r'/\Hl r'/\Step anyS w.heap.size col col' w w'/\a2I w' w.heap.size col' vG (Desk.a0g s (.tick n)).2.granted/\a2I w' w.heap.size col' vE (Desk.a0g s (.tick n)).2.ended/\(∀ b,vG.ownBlock=some b->vE.ownBlock≠some b)
theorem b5Q{wr:World}(htq:s.now+n=tq)(hst:Step anyS w.heap.size col ck w wr)(ho:Of { s with es:=esc } rk)(hw:Wl rk)(hh:Hl rk)(sn1:DK (wr.setCell ⟨d,0,none⟩ (.int .i64 tq)) d { rk with now:=tq } ck)(sn2:Step (·=.desk) wr.heap.size ck ck wr (wr.setCell ⟨d,0,none⟩ (.int .i64 tq)))(hr:RB (wr.setCell ⟨d,0,none⟩ (.int .i64 tq)) w.heap.size ck R Q tq vG vE G E)(ht:Desk.a1K s.ts (s.es.length+1) s.es s.now tq=(esc,E,G))(hle:s.now+n<=1048320):
  a7b w d s col n (a0s 0 0 tq (.slice none 0 0) (.slice none 0 0) vG vE) (a2w (wr.setCell ⟨d,0,none⟩ (.int .i64 tq)) Q (.int .i64 0) (.int .i64 0) (.int .i64 tq) (.slice none 0 0) (.slice none 0 0) vG vE):=by
 have k:=a2R (wr.setCell ⟨d,0,none⟩ (.int .i64 tq)) Q (.int .i64 0) (.int .i64 0) (.int .i64 tq) (.slice none 0 0) (.slice none 0 0) vG vE
 have hd:Desk.a0g s (.tick n)=({ s with es:=esc,now:=tq },{ Desk.Rep.num tq with granted:=G,ended:=E }):=by
  subst htq;show (if 1048320<s.now+n then _ else _)=_;rw[if_neg (by omega),ht]
 rw[a7b,hd];refine⟨{ rk with now:=tq },ck,vG,vE,by rw[htq],sn1.off k (fun x hx=>?_),⟨rfl,ho.given,ho.ts,ho.es,ho.th,ho.tb⟩,hw,hh,?_,⟨?_,hr.g.no⟩,⟨?_,hr.e.no⟩,fun b hb=>(hr.ge b hb).1⟩
 ·have:x=Q:=List.mem_singleton.1 hx;subst this;exact hr.qc
 ·refine (hst.trans (sn2.any hst.size)).trans ⟨⟨_,k,fun x hx=>.inr ?_⟩,fun _ _ h=>h,fun _ _ h=>.inl h⟩;have:x=Q:=List.mem_singleton.1 hx;subst this;exact⟨hr.qc,hr.qb⟩
 ·exact a1i hr.g.own k (fun b hb=>by simpa using (hr.ge b hb).2.2)
 ·exact a1i hr.e.own k (fun b hb=>by simpa using (hr.er b hb).2)
theorem c3o(args:Array Value)(w:World):(callFunc 156 args).run Tryz.prog w=.ok (.enter 156 args) w:=by kernel_rfl
theorem b6Z(args:Array Value)(w:World):(callFunc 65 args).run Tryz.prog w=.ok (.enter 65 args) w:=by kernel_rfl
theorem c1Z(h:DK w d r col)(ho:Of s r)(hw:Wl r)(hh:Hl r)(hm:Inv s)(n:Int)(hn:1<=n/\n<=1048320)(hle:s.now+n<=1048320):
  Calls Tryz.prog 103 #[.pointer (some ⟨d,0,none⟩),.agg #[.int .i64 n]] w fun e w'=>∃ v,e=.returned v/\a7b w d s col n v w':=by
 have hX:Below w.heap.size w ((w.alloc (.cells #[.int .i64 n] 182)).alloc (.cells #[.int .i64 0,.int .i64 0,.int .i64 0,.slice none 0 0,.slice none 0 0,.slice none 0 0,.slice none 0 0] 40)):=((zr _ _).alloc (zq _) _).alloc (by simp) _;have hx:=h.later hX;have c0:=hx.c0;rw[ho.now] at c0;have xn:((w.alloc (.cells #[.int .i64 n] 182)).alloc (.cells #[.int .i64 0,.int .i64 0,.int .i64 0,.slice none 0 0,.slice none 0 0,.slice none 0 0,.slice none 0 0] 40)).cell? ⟨w.heap.size,0,none⟩=some (.int .i64 n):=by simp
 have xr:((w.alloc (.cells #[.int .i64 n] 182)).alloc (.cells #[.int .i64 0,.int .i64 0,.int .i64 0,.slice none 0 0,.slice none 0 0,.slice none 0 0,.slice none 0 0] 40)).heap[w.heap.size+1]?=some (.cells #[.int .i64 0,.int .i64 0,.int .i64 0,.slice none 0 0,.slice none 0 0,.slice none 0 0,.slice none 0 0] 40):=by
  have:=a0p (w.alloc (.cells #[.int .i64 n] 182)) (.cells #[.int .i64 0,.int .i64 0,.int .i64 0,.slice none 0 0,.slice none 0 0,.slice none 0 0,.slice none 0 0] 40)
  rwa [World.size_alloc] at this
 have hle':¬ (1048320<s.now+n):=by omega
 have h0:=hm.n0;have hw1:IntKind.i64.wrap (s.now+n)=s.now+n:=a0i (by omega) (by omega);have HX:=a0b (zA hX (zA hx (zA xr (zA ho (zA hw (zA hh hm))))));have hcn:∀ b,w.heap.size<=b->col b=none:=fun b hb=>h.none hb
 have HCN:=a0b hcn;clear h ho hw hh hm hX hx xr hcn
 go_enter Tryz.func103,Tryz.ntmps103
 go_upto_region 1 with fail
 generalize ((w.alloc (.cells #[.int .i64 n] 182)).alloc (.cells #[.int .i64 0,.int .i64 0,.int .i64 0,.slice none 0 0,.slice none 0 0,.slice none 0 0,.slice none 0 0] 40))=X at HX c0 xn ⊢
 go_big_region
 clear c0 xn
 have T0:Hid (TD w (X.alloc (.cells #[.int .i64 0,.int .i64 0,.int .i64 (s.now+n),.slice none 0 0,.slice none 0 0,.slice none 0 0,.slice none 0 0] 40)).drew d s col X.heap.size (w.heap.size+1) (s.now+n) s.es [] [] (.slice none 0 0) (.slice none 0 0)):=by
  obtain⟨hX,hx,xr,ho,hw,hh,hm⟩:=HX.out;have hb:Below X.heap.size X (X.alloc (.cells #[.int .i64 0,.int .i64 0,.int .i64 (s.now+n),.slice none 0 0,.slice none 0 0,.slice none 0 0,.slice none 0 0] 40)).drew:=((zr _ _).alloc (zq _) _).drew;have hql:=a6f xr;refine⟨r,col,hx.later hb,ho,hw,hh,(Step.below hX).trans (Step.below hb),⟨a0p X _,(hb.block _ hql).trans xr,HCN.out _ hX.size,HCN.out _ (by omega),hX.size,by omega,by omega,a2I.nil _ _ _,a2I.nil _ _ _,fun b hb=>(by cases hb),fun b hb=>(by cases hb)⟩⟩
 have K0:Hid (TK s (s.now+n) s.es s.now [] [] s.es.length):=⟨HX.out.2.2.2.2.2.2,Int.le_refl _,by omega,Nat.le_refl _,by simp,by simp,by simp⟩;clear HX HCN
 go_wp2_with fail
 generalize (X.alloc (.cells #[.int .i64 0,.int .i64 0,.int .i64 (s.now+n),.slice none 0 0,.slice none 0 0,.slice none 0 0,.slice none 0 0] 40)).drew=Y at T0 ⊢;generalize X.heap.size=R at T0 ⊢;generalize w.heap.size+1=Q at T0 ⊢;generalize htq:s.now+n=tq at *;have HTQ:=a0b htq;clear htq hw1
 go_loopw [7,8] (fun _ _ wx=>∃ (esc:List Ent) (nowc:Int) (G E:List Int) (K:Nat) (vG vE:Value),TD w wx d s col R Q tq esc G E vG vE/\TK s tq esc nowc G E K) (fun _ _ wx=>s.es.length-lenOf ((wx.cell? ⟨R,6,none⟩).getD undef))
 case atStart=>exact⟨s.es,s.now,[],[],s.es.length,_,_,T0.out,K0.out⟩
 case round =>
  obtain⟨esc,nowc,G,E,K,vG,vE,⟨rk,ck,D,O,W,HH,ST,RBk⟩,k⟩:=hrel;have FI:=a0b (b8J D HH);have HD:=a0b (zA D (zA O (zA W (zA HH (zA ST (zA RBk k))))));clear D O W HH ST RBk k
  go_wp2_with fail
  refine FI.out.mono ?_;rintro e w1 ⟨hw1,hcase⟩;subst hw1;have htq':=HTQ.out;rcases hcase with ⟨rfl,hcase⟩|⟨g,hg,hkd,rfl,hcase⟩
  ·have D:=HD.out.1
   have hno:∀ e∈esc,e.kind≠1->tq<e.a0Z:=by
    intro e he hk;obtain⟨x,hx,rfl⟩:=HD.out.2.1.get he;exact absurd (hcase x hx) hk
   have cd:=D.c0;have fd:=D.fz 0;obtain⟨sn1,sn2⟩:=D.setNow tq;have RB1:=HD.out.2.2.2.2.2.1.step sn2 (zq _);have HF:=a0b (b5Q htq' (HD.out.2.2.2.2.1) HD.out.2.1 HD.out.2.2.1 HD.out.2.2.2.1 sn1 sn2 RB1 (HD.out.2.2.2.2.2.2.stop hno) (by rw[htq'];exact hle));obtain⟨r0,r1,r2,r3,r4,r5,r6,q0,q1,q2,q3,q4,q5,q6,fq⟩:=RB1.r7;obtain⟨aG,cG,eG⟩:=RB1.g.slice;obtain⟨aE,cE,eE⟩:=RB1.e.slice;subst eG;subst eE;clear D sn1 sn2 RB1 hno hcase HD FI
   go_wp2_with fail
   exact bodyPost_ret (v:=a0s 0 0 tq (.slice none 0 0) (.slice none 0 0) (.slice aG G.length cG) (.slice aE E.length cE)) (by simp[results,Tryz.results103,go_sem,a0s,q0,q1,q2,q3,q4,q5,q6]) rfl ⟨_,rfl,HF.out⟩
  ·by_cases ht:tq<g.e.a0Z
   ·have D:=HD.out.1
    have hno:∀ e∈esc,e.kind≠1->tq<e.a0Z:=by
     intro e he hk;obtain⟨x,hx,rfl⟩:=HD.out.2.1.get he;have:=hcase x hx hk;omega
    have cd:=D.c0;have fd:=D.fz 0;obtain⟨sn1,sn2⟩:=D.setNow tq;have RB1:=HD.out.2.2.2.2.2.1.step sn2 (zq _);have HF:=a0b (b5Q htq' (HD.out.2.2.2.2.1) HD.out.2.1 HD.out.2.2.1 HD.out.2.2.2.1 sn1 sn2 RB1 (HD.out.2.2.2.2.2.2.stop hno) (by rw[htq'];exact hle));obtain⟨r0,r1,r2,r3,r4,r5,r6,q0,q1,q2,q3,q4,q5,q6,fq⟩:=RB1.r7;obtain⟨aG,cG,eG⟩:=RB1.g.slice;obtain⟨aE,cE,eE⟩:=RB1.e.slice;subst eG;subst eE;clear D sn1 sn2 RB1 hno hcase HD FI
    go_wp2_with fail
    exact bodyPost_ret (v:=a0s 0 0 tq (.slice none 0 0) (.slice none 0 0) (.slice aG G.length cG) (.slice aE E.length cE)) (by simp[results,Tryz.results103,go_sem,a0s,q0,q1,q2,q3,q4,q5,q6]) rfl ⟨_,rfl,HF.out⟩
   ·have D:=HD.out.1;have k:=HD.out.2.2.2.2.2.2;have hmid:=k.mid h0
    have hg0:∀ e∈esc,e.kind≠1->g.e.a0Z<=e.a0Z:=fun e he hk=>by
     obtain⟨x,hx,rfl⟩:=HD.out.2.1.get he;exact hcase x hx hk
    obtain⟨K',k',m',hnt⟩:=k.next hle (by omega) ⟨g.e,HD.out.2.1.mem hg,hkd,rfl⟩ hg0;have hlen:=k.cnt;have hes:s.es.length<=60:=a1x (K0.out.mid h0);have hEl:E.length+esc.length<=1000:=by omega
    have ST:=HD.out.2.2.2.2.1;have RBk:=HD.out.2.2.2.2.2.1;have EB:=a0b (c0U (D.later (a0q w1)) HD.out.2.1 HD.out.2.2.1 HD.out.2.2.2.1 hmid g.e.a0Z hg0);have AP:=a0b (fun v2 w4 (p:a7d w1.drew d { s with es:=esc } ck g.e.a0Z v2 w4)=>TD.ended (ST.trans (Step.below (a0q w1))) (RBk.later (a0q w1)) p hEl);have cE:=RBk.cells.2.1;have lE:lenOf vE=E.length:=RBk.e.len
    have hps:0<(esc.filter (a0z g.e.a0Z)).length:=List.length_pos_iff.2 (fun e=>by
     have:g.e∈esc.filter (a0z g.e.a0Z):=List.mem_filter.2 ⟨HD.out.2.1.mem hg,by unfold a0z;rw[Bool.and_eq_true,decide_eq_true_iff];exact⟨by simpa using hkd,rfl⟩⟩
     rw[e] at this;simp at this)
    have KN:=a0b (zA k' (zA (m'.earlier h0 (by have h1:=k.n1;have h2:=hnt;omega)) (zA lE hps)));have hgl:G.length<=3600:=by have:=k.gl;omega
    clear D k hmid hg0 k' m' hlen ST RBk HD FI hcase hg hkd lE hEl hes hps hnt
    go_upto_region 7 with fail
    go_cut [40] from 35 to 41 (fun _ wx=>∃ vE',TD w wx d s col R Q tq (esc.filter fun e=>!a0z g.e.a0Z e) G (E++(esc.filter (a0z g.e.a0Z)).map fun e=>e.id) vG vE')
    case first =>
     go_region_law (first
      |(refine a2k (by rfl) 156 _ _ (by rfl) _ (by simp[Act.eval,Act.put]) (c3o _ _) EB.out ?_;rintro e w4 ⟨v2,rfl,p⟩;refine⟨_,rfl,?_⟩;obtain⟨a,nn,cap,w5,hrun,b6,f6,b64,TDn⟩:=AP.out v2 w4 p;have HR:=a0b hrun;clear hrun)
      |(refine a3u (by rfl) _ _ _ _ (by rfl) (HR.out _) ?_))
     all_goals
      go_wp2_with fail
      go_meet
      exact⟨_,TDn⟩
    case rest =>
     obtain⟨vE',T1⟩:=hcut;have hcE:wc.cell? ⟨R,6,none⟩=some vE':=by obtain⟨_,_,_,_,_,_,_,hr⟩:=T1.ex;exact hr.cells.2.1
     obtain⟨r2,c2,D2,O2,W2,H2,S2,RB2⟩:=T1.ex;have GR:=a0b (b3y (D2.later (a0q wc)) O2 W2 H2 KN.out.2.1)
     have hg2:G.length+(Desk.a0R s.ts (esc.filter fun e=>!a0z g.e.a0Z e)).2.length<=100000:=by
      have h1:=a5e s.ts ((esc.filter fun e=>!a0z g.e.a0Z e).filter Desk.a0T) (esc.filter fun e=>!a0z g.e.a0Z e,[]);have h2:=List.length_filter_le Desk.a0T (esc.filter fun e=>!a0z g.e.a0Z e);have h3:=a1x KN.out.2.1;have e1:=Desk.a5F s.ts (esc.filter fun e=>!a0z g.e.a0Z e) KN.out.2.1.ids;simp only[List.length_nil] at h1 h3;rw[<- e1] at h1;omega
     have AG:=a0b (fun v2 w4 (p:a5o wc.drew d { s with es:=esc.filter fun e=>!a0z g.e.a0Z e } c2 v2 w4)=>TD.granted (S2.trans (Step.below (a0q wc))) (RB2.later (a0q wc)) p hg2);have cG:=RB2.cells.1;have CE:=a0b cE;clear D2 O2 W2 H2 S2 RB2 T1 EB AP hg2 cE hgl
     go_upto_region 8 with fail
     go_region_law (first
      |(refine a2k (by rfl) 65 _ _ (by rfl) _ (by simp[Act.eval,Act.put]) (b6Z _ _) GR.out ?_;rintro e w4 ⟨v2,rfl,p⟩;refine⟨_,rfl,?_⟩;obtain⟨a,nn,cap,w5,hrun,b6,f6,b64,TDn⟩:=AG.out v2 w4 p;have HR:=a0b hrun;clear hrun)
      |(refine a3u (by rfl) _ _ _ _ (by rfl) (HR.out _) ?_))
     all_goals
      have TN:=a0b TDn;clear TDn p b6 f6 b64 GR AG HR cG hcE
      go_wp2_with fail
      go_roundw
      case rel=>exact⟨_,_,_,_,_,_,_,TN.out,KN.out.1⟩
      case measure =>
       obtain⟨_,_,_,_,_,_,_,hr⟩:=TN.out.ex;have e1:=hr.cells.2.1;have e2:=hr.e.len;have h1:=KN.out.1.cnt;have h2:=KN.out.2.2.2;have h3:=KN.out.2.2.1;rw[List.length_append,List.length_map] at e2 h1;rw[e1,CE.out];simp only[Option.getD_some];omega
theorem b2B(ho:Of s r)(hp:s.ts.Pairwise fun t u=>a0y t.1 u.1=false){name:ByteArray}(h:b2r r.tg name=some b):∃ (i:Nat)(hi:i<r.tg.length),r.tg[i].name=name/\r.tg[i].tb=b/\Desk.a0h name s.ts=r.tg[i].a0c:=by
 rw[a3r] at h
 cases e:r.tg.find? fun t=>a0y t.name name with
 |none=>rw[e] at h;cases h
 |some t =>
  rw[e] at h;obtain⟨i,hi,rfl⟩:=List.getElem_of_mem (List.mem_of_find?_eq_some e);have hn:r.tg[i].name=name:=a4l.1 (by simpa using List.find?_some e);refine⟨i,hi,hn,by simpa using h,?_⟩;have e1:=a8G hp (i:=i) (by rw[<- ho.len];exact hi);rw[ho.tsAt hi] at e1;rw[<- hn];exact e1
theorem b2C(ho:Of s r){name:ByteArray}(h:b2r r.tg name=none):Desk.a0h name s.ts=0:=by
 refine a3o (fun t ht e=>?_);rw[<- ho.ts] at ht;obtain⟨x,hx,rfl⟩:=List.mem_map.1 ht;rw[a3r] at h
 cases e2:r.tg.find? fun t=>a0y t.name name with
 |none =>
  have:=List.find?_eq_none.1 e2 x hx;exact this (a4l.2 e)
 |some y=>rw[e2] at h;cases h
def a5n(s:St)(r:Raw)(name:ByteArray)(err:Int)(e:Ending):Prop :=
 (err≠0/\e=.returned (.tuple #[.pointer none,.int .i64 err]))\/(err=0/\∃ (i:Nat) (hi:i<r.tg.length),r.tg[i].name=name/\Desk.a0h name s.ts=r.tg[i].a0c/\e=.returned (.tuple #[.pointer (some ⟨r.tg[i].tb,0,none⟩),.int .i64 0]))
theorem c5O(w:World):(zeroValue 198).run Tryz.prog w=.ok (.pointer none) w:=by simp[go_sem]
theorem b0O(h:DK w d r col)(ho:Of s r)(hm:Mid s)(name:ByteArray)(hn:name.size<=1000)(u:Int):
  Calls Tryz.prog 146 #[.pointer (some ⟨d,0,none⟩),.string name,.int .i64 u] w fun e w'=>a5n s r name (Desk.a0S s.ts name u) e/\w'=w:=by
 obtain⟨m,f,a1,a2,a3,a4⟩:=h.mt;have kk:=b4Z hn;have hlook:=a3.look c0z Tryz.underlying137 (c5O w) kk;rw[a4 name] at hlook
 cases ht:b2r r.tg name with
 |none =>
  rw[ht] at hlook;have hu:=b2C ho ht;have e1:Desk.a0S s.ts name u=3:=by unfold Desk.a0S;rw[if_pos hu]
  have hlook':(Instr.lookup 137 (.map (some m)) (.string name) false).run Tryz.prog w=.ok (.pointer none) w:=hlook;have HF:Hid (a5n s r name (Desk.a0S s.ts name u) (.returned (.tuple #[.pointer none,.int .i64 3]))):=.inl ⟨by rw[e1];omega,by rw[e1]⟩;clear hlook e1 hu ht a3 a4 h ho hm
  go_enter Tryz.func146,Tryz.ntmps146
  go_wp2_with fail
  go_ret2;exact⟨HF.out,rfl⟩
 |some b =>
  rw[ht] at hlook;obtain⟨i,hi,e1,e2,e3⟩:=b2B ho hm.tn ht;obtain⟨ul,us,Fl,Fs,t1,t2⟩:=h.th i hi;have cu:=t1.c1;rw[e2] at cu
  have hpos:Desk.a0h name s.ts≠0:=by
   rw[e3];have hin:(r.tg[i].name,r.tg[i].a0c)∈s.ts:=by rw[<- ho.tsAt hi];exact zg _
   have:=(hm.tu _ hin).1;simp only at this;omega
  have hlook':(Instr.lookup 137 (.map (some m)) (.string name) false).run Tryz.prog w=.ok (.pointer (some ⟨b,0,none⟩)) w:=hlook
  by_cases hc:r.tg[i].a0c<u
  ·have e4:Desk.a0S s.ts name u=7:=by unfold Desk.a0S;rw[if_neg hpos,if_pos (by omega)]
   have HF:Hid (a5n s r name (Desk.a0S s.ts name u) (.returned (.tuple #[.pointer none,.int .i64 7]))):=.inl ⟨by rw[e4];omega,by rw[e4]⟩;clear hlook ht a3 a4 h ho hm e1 e2 e3 t1 t2 hpos e4;generalize r.tg[i].a0c=un at *
   go_enter Tryz.func146,Tryz.ntmps146
   go_wp2_with fail
   go_ret2;exact⟨HF.out,rfl⟩
  ·have e4:Desk.a0S s.ts name u=0:=by unfold Desk.a0S;rw[if_neg hpos,if_neg (by omega)]
   have HF:Hid (a5n s r name (Desk.a0S s.ts name u) (.returned (.tuple #[.pointer (some ⟨b,0,none⟩),.int .i64 0]))):=.inr ⟨e4,i,hi,e1,e3,by rw[e2]⟩;clear hlook ht a3 a4 h ho hm e1 e2 e3 t1 t2 hpos e4;generalize r.tg[i].a0c=un at *
   go_enter Tryz.func146,Tryz.ntmps146
   go_wp2_with fail
   go_ret2;exact⟨HF.out,rfl⟩
def a1c(s:St)(name:ByteArray)(u fr til:Int):Int:=if Desk.a0S s.ts name u≠0 then Desk.a0S s.ts name u else if til<=fr then 6 else 0
theorem a4e(h:DK w d r col)(ho:Of s r)(hm:Mid s)(name:ByteArray)(hn:name.size<=1000)(u fr til:Int):
  Calls Tryz.prog 143 #[.pointer (some ⟨d,0,none⟩),.string name,.int .i64 u,.agg #[.int .i64 fr,.int .i64 til]] w fun e w'=>a5n s r name (a1c s name u fr til) e/\Below w.heap.size w w':=by
 have hX:Below w.heap.size w (w.alloc (.cells #[.int .i64 fr,.int .i64 til] 60)):=(zr _ _).alloc (zq _) _;have HV:=a0b (b0O (h.later hX) ho hm name hn u);have HX:=a0b hX;clear h ho hm hX
 go_enter Tryz.func143,Tryz.ntmps143
 go_wp2_with fail
 refine HV.out.mono ?_;rintro e w1 ⟨hp,hw1⟩;have HW:=a0b (show Below w.heap.size w w1 by rw[hw1];exact HX.out);have x0:w1.cell? ⟨w.heap.size,0,none⟩=some (.int .i64 fr):=by rw[hw1];simp
 have x1:w1.cell? ⟨w.heap.size,1,none⟩=some (.int .i64 til):=by rw[hw1];simp
 clear hw1 HV HX;rcases hp with ⟨h1,rfl⟩|⟨h1,i,hi,e1,e2,rfl⟩
 ·have HF:Hid (a5n s r name (a1c s name u fr til) (.returned (.tuple #[.pointer none,.int .i64 (Desk.a0S s.ts name u)]))):=by
   have:a1c s name u fr til=Desk.a0S s.ts name u:=by unfold a1c;rw[if_pos h1]
   rw[this];exact .inl ⟨h1,rfl⟩
  generalize Desk.a0S s.ts name u=e0 at *;have hb:(e0 != 0)=true:=by simpa using h1
  go_wp2_with fail
  go_ret2;exact⟨HF.out,HW.out⟩
 ·by_cases hc:til<=fr
  ·have HF:Hid (a5n s r name (a1c s name u fr til) (.returned (.tuple #[.pointer none,.int .i64 6]))):=by
    have:a1c s name u fr til=6:=by unfold a1c;rw[if_neg (by omega),if_pos hc]
    rw[this];exact .inl ⟨by omega,rfl⟩
   clear h1 e1 e2
   go_wp2_with fail
   go_ret2;exact⟨HF.out,HW.out⟩
  ·have HF:Hid (a5n s r name (a1c s name u fr til) (.returned (.tuple #[.pointer (some ⟨r.tg[i].tb,0,none⟩),.int .i64 0]))):=by
    have:a1c s name u fr til=0:=by unfold a1c;rw[if_neg (by omega),if_neg hc]
    rw[this];exact .inr ⟨rfl,i,hi,e1,e2,rfl⟩
   clear h1 e1 e2
   go_wp2_with fail
   go_ret2;exact⟨HF.out,HW.out⟩
end Go.Proofs.YtfigmlfdnickmaaGreatDoor
