import Derived.Test.YtfigmlfdnickmaaGreatDoorL09
import Derived.Test.YtfigmlfdnickmaaGreatDoorProg
import Derived.Laws.Rows
import Derived.WalkKit
import Derived.WalkSpells
import Derived.WalkLawsBesides
set_option maxRecDepth 100000
set_option maxHeartbeats 8000000
variable{name:ByteArray}{b m y:Int}{l:List (Go.Proofs.YtfigmlfdnickmaaGreatDoor.Desk.Ent × Go.Value)}{G:List Nat}{xs:List Go.Value}{B B' Q R d e n:Nat}{col col1:Nat->Option Go.Proofs.YtfigmlfdnickmaaGreatDoor.Col}{r:Go.Proofs.YtfigmlfdnickmaaGreatDoor.Raw}{s:Go.Proofs.YtfigmlfdnickmaaGreatDoor.Desk.St}{v:Go.Value}{X Z w w' w1 w2 w4:Go.World}
namespace Go.Proofs.YtfigmlfdnickmaaGreatDoor
open Go.RowKit
open Desk (Ent St Ids kept a0C a0Q a1C a2e ofB a0y a2c Mid a1H a5R)
theorem c2K(h:Mid s){e:Ent}(he:e∈s.es)(hk:e.kind=3)(hf:Desk.a1e s.ts s.es e.a0k e.a0c e.a0e=true):Mid { s with es:=a0C e.id s.es }:=by
 obtain⟨l,r,e1,e2,_⟩:=Desk.a8i h.ids he rfl;have h':Mid ⟨s.ts,l++e :: r,s.given,s.now⟩:=by rw[<- e1];exact h
 have:=h'.grant hk (by rw[<- e1];exact hf);rw[e2];exact this
theorem GX.yes{wx w3:World}{v4:Value}{k:Nat}{v':Value}{rk:Raw}{ck c1:Nat->Option Col}(h:GX w wx d s r col v4 k v rk ck)(hk':k<(s.es.filter Desk.a0T).length){g:EG}(hg:g∈rk.eg)(hge:g.e=(s.es.filter Desk.a0T)[k])(hk3:g.e.kind=3){i:Nat}(hi:i<rk.tg.length)(hname:rk.tg[i].name=g.e.a0k)
  (q2:Step (·=.a0k i) wx.heap.size ck c1 wx w1) (sp:a7R w1 d (rk.setT i (rk.tg[i].with (a1z rk.tg[i].A g.e.a0e g.e.a0c) (a7e g.e.id g.eb rk.tg[i].T g.e.a0e))) c1 g w2) (hf:Desk.a1e s.ts (gAt s k).1 g.e.a0k g.e.a0c g.e.a0e=true)
  (ho:Off v.ownBlock.toList w2 w3) (hv':∀ c2,(∀ b,v.ownBlock=some b->c2 b=none)->(∀ b,w2.heap.size<=b->c2 b=none)->a2I w3 w.heap.size c2 v' ((gAt s k).2++[g.e.id])):
  GI w w3 d s r col v4 (k+1) v':=by
 obtain⟨x,l',c2,e1,e2,p1,p2,p3,p4⟩:=sp;have hfk:Desk.a1e s.ts (gAt s k).1 (s.es.filter Desk.a0T)[k].a0k (s.es.filter Desk.a0T)[k].a0c (s.es.filter Desk.a0T)[k].a0e=true:=by rw[<- hge];exact hf
 have e:gAt s (k+1)=(a0C g.e.id (gAt s k).1,(gAt s k).2++[g.e.id]):=by
  rw[b6V s hk'];unfold a5R;rw[if_pos hfk,hge]
 have hn:=h.dk.ni;have hO:=(h.of.book h.mid.tn h.mid.ids hn hg hk3 ((h.mid.en _ (h.of.mem hg)).ri) hi hname).1;have hnr1:=(h.nr.step q2 (zq _)).step p4 (zq _);have hvn:∀ b,v.ownBlock=some b->c2 b=none:=hnr1.no;have hD:DK w3 d _ c2:=p3.off ho (fun y hy=>hvn y (Option.mem_toList.1 hy));have st3:Step anyS w.heap.size c2 c2 w2 w3:=⟨⟨_,ho,fun y hy=>.inr ⟨hvn y (Option.mem_toList.1 hy),(hnr1.own.lt y (Option.mem_toList.1 hy)).1⟩⟩,fun _ _ h=>h,fun _ _ h=>.inl h⟩;have t1:=h.st.trans (q2.any h.st.size);have t2:=t1.trans (p4.any t1.size);obtain⟨G1,a1,a2⟩:=q2.left;obtain⟨G2,b1,b2⟩:=p4.left;have hrc1:∀ b,v4.ownBlock=some b->c1 b=some .wa:=fun b hb=>q2.a9i _ _ (h.rc b hb)
 have hrc2:∀ b,v4.ownBlock=some b->c2 b=some .wa:=fun b hb=>p4.a9i _ _ (hrc1 b hb)
 have hrow2:=a1i (a1i h.row a1 (fun b hb=>a2 b (.inl ⟨_,h.rc b hb,by simp⟩))) b1 (fun b hb=>b2 b (.inl ⟨_,hrc1 b hb,by unfold b1x;simp⟩));refine⟨_,c2,hD,⟨hO.now,hO.given,hO.ts,by rw[e];exact hO.es,by rw[e];exact hO.th,hO.tb⟩,h.hl.book (r:=rk) hn hg (by omega) e2 p1 p2,h.wl,?_,t2.trans st3,by rw[e];exact hv' c2 hvn (fun b hb=>p3.none hb),?_,fun y hy=>?_,a1i hrow2 ho (fun b hb hx=>?_),hrc2⟩
 ·rw[e];show a1R g.e.id 1 0 rk.eg=a8r ((gAt s k).2++[g.e.id]) r.eg;rw[h.eg,b8O]
 ·rw[e];exact c2K h.mid (h.of.mem hg) hk3 hf
 ·rw[e] at hy;rw[List.take_succ_eq_append_getElem hk'];rcases List.mem_append.1 hy with hy|hy
  ·obtain⟨z,hz,e3⟩:=h.gm y hy;exact⟨z,List.mem_append_left _ hz,e3⟩
  ·have:y=g.e.id:=List.mem_singleton.1 hy;exact⟨_,List.mem_append_right _ (List.mem_singleton.2 rfl),by rw[<- hge,this]⟩
 ·have:=hvn b (Option.mem_toList.1 hx);rw[hrc2 b hb] at this;cases this
theorem b7p{Gr:List Int}{g:EG}(hk:g.e.kind=3):((bkG Gr g).e.kind==1)=true↔g.e.id∈Gr:=by
 by_cases h:g.e.id∈Gr
 ·rw[a9R h];simp[h,a0Q]
 ·rw[a5k h];simp[h,hk]
theorem c6L(Gr:List Int)(g:EG):(bkG Gr g).eb=g.eb:=by
 by_cases h:g.e.id∈Gr
 ·rw[a9R h]
 ·rw[a5k h]
def b3R(eg:List EG)(Gr:List Int)(b:Nat):Bool:=eg.any fun g=>decide (g.eb=b) && Gr.any fun x=>decide (x=g.e.id)
theorem c7b(eg:List EG)(Gr:List Int)(hn:(eg.map (·.eb)).Nodup):∀ g∈eg,g.e.kind=3->(bkG Gr g).eb=g.eb/\((bkG Gr g).e.kind==1)=b3R eg Gr g.eb:=by
 intro g hg hk;refine⟨c6L Gr g,?_⟩;have h1:=b7p (Gr:=Gr) hk
 have h2:b3R eg Gr g.eb=true↔g.e.id∈Gr:=by
  unfold b3R;rw[List.any_eq_true];constructor
  ·rintro ⟨x,hx,e1⟩;rw[Bool.and_eq_true,decide_eq_true_iff,List.any_eq_true] at e1;obtain⟨e1,y,hy,e2⟩:=e1;have:x=g:=a0W _ hn hx hg e1;have e3:y=x.e.id:=of_decide_eq_true e2;rw[<- this,<- e3];exact hy
  ·intro h;refine⟨g,hg,?_⟩;rw[Bool.and_eq_true,decide_eq_true_iff,List.any_eq_true];exact⟨rfl,g.e.id,h,decide_eq_true rfl⟩
 cases ha:((bkG Gr g).e.kind==1) <;> cases hb:b3R eg Gr g.eb
 ·rfl
 ·exact absurd (h1.2 (h2.1 hb)) (by rw[ha];simp)
 ·exact absurd (h2.2 (h1.1 ha)) (by rw[hb];simp)
 ·rfl
theorem a5e(ts:List (ByteArray × Int)):∀ (l:List Ent)(p:List Ent × List Int),(l.foldl (a5R ts) p).2.length<=p.2.length+l.length
 |[],p=>by simp
 |e :: l,p=>by
  have ih:=a5e ts l (a5R ts p e);have:(a5R ts p e).2.length<=p.2.length+1:=by unfold a5R;split <;> simp
  simp only[List.foldl_cons,List.length_cons];omega
theorem c5g(s:St)(k:Nat):(gAt s k).2.length<=k:=by
 have:=a5e s.ts ((s.es.filter Desk.a0T).take k) (s.es,[]);have h2:=List.length_take_le k (s.es.filter Desk.a0T);unfold gAt;simp only[List.length_nil] at this;omega
theorem b3y(h:DK w d r col)(ho:Of s r)(hw:Wl r)(hh:Hl r)(hm:Mid s):
  Calls Tryz.prog 65 #[.pointer (some ⟨d,0,none⟩)] w fun e w'=>∃ v,e=.returned v/\a5o w d s col v w':=by
 obtain⟨i0,hi0,hz0,hz1,hz2⟩:=info_parts b1S;obtain⟨v4,c4,own4,hc4⟩:=h.wa
 have hwn:r.wl.length<=60:=by
  rw[hw,List.length_map];have h1:=List.length_filter_le (fun g:EG=>g.e.kind==3) r.eg;have h2:=a1x hm;have h3:r.eg.length=s.es.length:=by rw[<- ho.es];simp
  omega
 have G0:Hid (GI w w d s r col v4 0 (.slice none 0 0)):=⟨r,col,h,ho,hh,rfl,by rw[b6U,c1v],Step.refl _ _ _ _,a2I.nil _ _ _,hm,fun x hx=>by rw[b6U] at hx;simp at hx,own4,hc4⟩;have HH:=a0b (zA h (zA ho (zA hw (zA hh hm))))
 have hv:∃ a cap,v4=.slice a r.wl.length cap:=by
  rcases own4.2 with ⟨rfl,h⟩|⟨g,cap,_,rfl,_⟩
  ·rw[h];exact⟨_,_,rfl⟩
  ·exact⟨_,_,rfl⟩
 obtain⟨a,cap,rfl⟩:=hv;clear h ho hw hh hm own4 hc4
 go_enter Tryz.func65,Tryz.ntmps65
 go_wp2_with fail
 go_loopw [3,5,11] (fun vg _ vi wx=>∃ k:Nat,k<=r.wl.length/\vi=.int .i64 k/\GI w wx d s r col (.slice a r.wl.length cap) k vg) (fun _ _ vi _=>r.wl.length-(intOf vi).toNat)
 case atStart=>exact⟨0,Nat.zero_le _,rfl,G0.out⟩
 case round =>
  obtain⟨k,hk,rfl,rk,ck,X⟩:=hrel
  by_cases hlt:k<r.wl.length
  ·have hi0':(k:Int)<(r.wl.length:Int):=by omega
   obtain⟨g,hk',hgr,hgk,hgeb,hge,hk3,hno⟩:=X.next HH.out.2.1 HH.out.2.2.1 HH.out.2.2.2.2.ids hlt;obtain⟨Hh,cap',e1⟩:=Joins.ownsRow_form X.row (by omega);simp only[Value.slice.injEq,true_and] at e1;obtain⟨rfl,rfl⟩:=e1;have a0:=X.row.cellAt k (by omega);rw[List.getElem?_map,List.getElem?_eq_getElem hlt,Option.map_some,<- hgeb] at a0;unfold a5x at a0;obtain⟨q1,q2,q3⟩:=X.dk.en g hgk;have co:=q1.en.c1;obtain⟨i,hi,hname,htb⟩:=X.of.tb g hgk;have hEO:=X.mid.en _ (X.of.mem hgk);have hFit:=b4W X.mid X.of hEO hi;have hHF:=b3a X.mid X.of hEO.sp hEO.u1 hi hname;have hRM:=b1H X.mid X.of hi;have HX:=a0b X;have HG:=a0b (zA hgk (zA hge (zA hk3 (zA hname q2))))
   cases hf:Desk.a1e s.ts (gAt s k).1 g.e.a0k g.e.a0c g.e.a0e
   ·have TK:=a0b (b7e X.dk i hi q1 htb (by rw[q2];simp) (by rw[q3];simp) hFit (hHF.trans hf))
    have FN:Hid (Desk.a1e s.ts (gAt s k).1 (s.es.filter Desk.a0T)[k].a0k (s.es.filter Desk.a0T)[k].a0c (s.es.filter Desk.a0T)[k].a0e=false):=by
     show _=_;rw[<- hge];exact hf
    have HK:=a0b hk';clear hf hHF hFit hRM hEO q1 q2 q3 X hgk hge hk3 hname hno hgr hgeb htb
    go_wp2_with fail
    refine TK.out.mono ?_;rintro e w1 ⟨rfl,c1,p1,p2⟩;have HN:Hid (GI w w1 d s r col (.slice (some ⟨Hh,0,none⟩) r.wl.length cap) (k+1) u3):=⟨rk,c1,HX.out.no HK.out p1 p2 FN.out⟩;clear p1 p2 TK HX HG a0 co FN
    go_wp2_with fail
    go_roundw
    case rel=>exact⟨k+1,by omega,by go_num,HN.out⟩
    case measure=>simp[intOf];omega
   ·have hR0:c3L rk.tg[i].T g.e.id g.e.a0e:=⟨hRM.1,hRM.2,(X.of.book X.mid.tn X.mid.ids X.dk.ni hgk hk3 hEO.ri hi hname).2,a6b hEO.ri⟩;have TK:=a0b (b3F X.dk i hi q1 htb (by rw[q2];simp) (by rw[q3];simp) hFit hR0 (hHF.trans hf));have HF:=a0b hf;have hls:(gAt s k).2.length<=60:=by have:=c5g s k;omega
    have hlen:rk.hl.length<=1000:=by
     have h1:=X.hl.len
     have h2:rk.eg.length=(gAt s k).1.length:=by have:=X.of.es;rw[<- List.length_map (f:=(·.e)),this]
     have h3:=a1x X.mid;simp only at h3;omega
    have HSX:=a0b (zA X.hl.1 (zA hlen (X.hl.has hgk (by omega))));have HK:=a0b hk';clear hf hHF hFit hRM hEO q1 q2 q3 X hgk hge hk3 hno hgr hgeb htb hR0 hlen;have HNM:=a0b hname;clear hname
    go_wp2_with fail
    refine TK.out.mono ?_;rintro e w1 ⟨rfl,c1,p1,p2⟩;have ST:=a0b (b0w p1 HSX.out.1 HSX.out.2.1 (g:=g) HG.out.1 ⟨a9r g,HSX.out.2.2,rfl,rfl⟩);have P2:=a0b p2;clear p1 p2 TK a0 co
    go_wp2_with fail
    refine ST.out.mono ?_;rintro e w2 ⟨rfl,sp⟩;have SP:=a0b sp;obtain⟨x,l',c2,e1,e2,s1,s2,s3,s4⟩:=sp;have hmem:({ g with e:={ g.e with kind:=1,a0Z:=0 } }:EG)∈a1R g.e.id 1 0 rk.eg:=List.mem_map.2 ⟨g,HG.out.1,if_pos rfl⟩;have c02:w2.cell? ⟨g.eb,0,none⟩=some (.int .i64 g.e.id):=(s3.en _ hmem).1.en.c0;have NR:=a0b ((HX.out.nr.step P2.out (zq _)).step s4 (zq _));have hws:w.heap.size<=w2.heap.size:=Nat.le_trans (Nat.le_trans HX.out.st.size P2.out.size) s4.size;clear s1 s2 s3 s4 e1 e2 hmem ST
    go_wp2_with (first
     |(at_builtin;refine wpList_append_lies _ rfl _ _ 38 rfl w.heap.size 3 i0 _ 1 8 Tryz.underlying38 hi0 hz0 hz1 hz2 rfl (by decide) _ _ _ rfl (NR.out.own.alloc _) ⟨w2.heap.size,0,none⟩ 1 1 [.int .i64 g.e.id] rfl rfl (World.news_of_block (cs:=#[.int .i64 g.e.id]) (a0p w2 _)) (by simp[Value.oneCell']) (by omega) (by unfold maxLen;omega) (by omega) (by simp;omega) (w2.heap.size+1) (by simp) ?_;intro g2 cap2 w3 hown hgrow hat hlt2))
    have ko:Off u3.ownBlock.toList w2 w3:=Off.grown ((Off.refl _ w2).alloc _) hgrow (fun k hk=>.inl (Option.mem_toList.2 hk));have hat':u3.ownBlock=some g2\/g2=w2.heap.size+1:=hat
    have HN:Hid (GI w w3 d s r col (.slice (some ⟨Hh,0,none⟩) r.wl.length cap) (k+1) (.slice (some ⟨g2,0,none⟩) ((gAt s k).2.length+1) cap2)) :=
     HX.out.yes HK.out HG.out.1 HG.out.2.1 HG.out.2.2.1 hi HNM.out P2.out SP.out HF.out ko (fun c2 n1 n2=>⟨by rw[List.length_append,List.map_append];exact hown,fun b hb=>by
      have:g2=b:=by simpa[Value.ownBlock] using hb
      subst this;rcases hat' with e|e
      ·exact n1 g2 e
      ·exact n2 g2 (by omega)⟩)
    clear hown hgrow hat ko hat' HX HG HK SP NR P2 HNM HF HSX;go_roundw
    case rel=>exact⟨k+1,by omega,by go_num,HN.out⟩
    case measure=>simp[intOf];omega
  ·have hi1:¬ ((k:Int)<(r.wl.length:Int)):=by omega
   obtain⟨v,c4',own',hc'⟩:=X.dk.wa;have f4:=X.dk.fz 4;have hd:=X.dk.dc;have hvd:d ∉ v.ownBlock.toList:=fun e=>by have:=hc' _ (Option.mem_toList.1 e);rw[hd] at this;cases this
   have hkl:(s.es.filter Desk.a0T).length<=k:=by
    have h1:=HH.out.2.2.1
    have h2:s.es.filter Desk.a0T=(r.eg.filter fun g=>g.e.kind==3).map (·.e):=by rw[<- HH.out.2.1.es,List.filter_map];rfl
    rw[h2,List.length_map];rw[h1,List.length_map] at hlt;omega
   have hga:=c5h s HH.out.2.2.2.2.ids hkl;have PB:=a0b (c7b r.eg (gAt s k).2 HH.out.1.nd);generalize b3R r.eg (gAt s k).2=p at PB
   have DL:=a0b (c1e rk.wl p v wr (fun wx ko b hb=>by
    have hb':b∈r.wl:=by rw[<- X.wl];exact hb
    rw[HH.out.2.2.1] at hb';obtain⟨g,hg,rfl⟩:=List.mem_map.1 hb';obtain⟨hg1,hg2⟩:=List.mem_filter.1 hg;have hg3:g.e.kind=3:=by simpa using hg2
    have hmem:bkG (gAt s k).2 g∈rk.eg:=by rw[X.eg];exact List.mem_map.2 ⟨g,hg1,rfl⟩
    obtain⟨q1,q2,q3⟩:=X.dk.en _ hmem;have hkc:wx.cell? ⟨(bkG (gAt s k).2 g).eb,1,none⟩=some (.int .i64 (bkG (gAt s k).2 g).e.kind):=ko.cell (fun e=>by have:=hc' _ (Option.mem_toList.1 e);rw[q2] at this;cases this) q1.k;obtain⟨e1,e2⟩:=PB.out g hg1 hg3;rw[e1] at hkc;rw[<- e2]
    exact b3r g.eb _ wx hkc) own' (by rw[X.wl];omega))
   have VC:=a0b (zA hc' hvd);have HX:=a0b X;clear X own' hc' hvd hd
   go_wp2_with fail
   refine DL.out.mono ?_;rintro e w2 ⟨v',rfl,k1,k2,k3⟩
   obtain⟨va,vn,vc,rfl⟩:∃ a n cap,v'=.slice a n cap:=by
    rcases k2.2 with ⟨e,_⟩|⟨_,_,_,e,_⟩
    ·exact⟨_,_,_,e⟩
    ·exact⟨_,_,_,e⟩
   have c42:=k1.cell VC.out.2 c4';have f42:=(k1.frozen (o:=4) VC.out.2 (World.block_lt_of_cell? _ _ c4')).trans f4;have SW:=a0b (HX.out.dk.setWait VC.out.1 k1 k2 (fun b hb=>.inl (by rw[<- k3];exact hb)))
   have HF:Hid (a5o w d s col u3 (w2.setCell ⟨d,4,none⟩ (.slice va vn vc))):=by
    obtain⟨col2,q1,q2⟩:=SW.out;have X:=HX.out;refine⟨_,col2,q1,?_,?_,X.hl,X.st.trans (q2.any X.st.size),?_⟩
    ·have o:=X.of;rw[hga] at o;exact⟨o.now,o.given,o.ts,o.es,o.th,o.tb⟩
    ·show (rk.wl.filter fun b=>!p b)=(rk.eg.filter fun g=>g.e.kind==3).map (·.eb);rw[X.wl,HH.out.2.2.1,X.eg];exact c3G _ _ p (fun g hg hk=>by rw[<- (PB.out g hg hk).2];exact b7p hk)
    ·rw[<- hga];exact X.nr.step q2 (zq _)
   clear k1 k2 k3 DL c4' f4 SW HX VC PB HH
   go_wp2_with fail
   go_ret;exact⟨_,rfl,HF.out⟩
open Desk (Ent St Ids kept a0C a0Q a1C a2e ofB a0y a2c Mid a1H a0z)
def b7y(w:World)(d:Nat)(s:St)(col:Nat->Option Col)(g:EG)(w':World):Prop :=
 ∃ (r':Raw) (col':Nat->Option Col),DK w' d r' col'/\Of { s with es:=kept g.e.id s.es } r'/\Wl r'/\Hl r'/\Step a5U w.heap.size col col' w w'
theorem a9f(h:DK w d r col)(ho:Of s r)(hw:Wl r)(hm:Mid s){g:EG}(hg:g∈r.eg)(hh:Hl { r with eg:=a1F g.e.id r.eg }):
  Calls Tryz.prog 150 #[.pointer (some ⟨d,0,none⟩),.pointer (some ⟨g.eb,0,none⟩)] w fun e w'=>e=.returned (.tuple #[])/\b7y w d s col g w':=by
 have hid:=hm.idb _ (ho.mem hg);have hg1:=hm.g1
 by_cases hk:g.e.kind=3
 ·refine (b8h h hg hk (by omega) (fun b hb=>?_) ?_).mono ?_
  ·rw[hw] at hb;obtain⟨x,hx,rfl⟩:=List.mem_map.1 hb;exact⟨x,(List.mem_filter.1 hx).1,rfl⟩
  ·rw[hw,List.length_map];have h1:=List.length_filter_le (fun g:EG=>g.e.kind==3) r.eg;have h2:=a1x hm;have h3:r.eg.length=s.es.length:=by rw[<- ho.es];simp
   omega
  ·rintro e w' ⟨rfl,col',q1,q2⟩;refine⟨rfl,_,col',q1,?_,hw.goes h.ni h.nd hg,hh,q2⟩;have o:=ho.goesW hm.ids h.ni hg hk;exact⟨o.now,o.given,o.ts,o.es,o.th,o.tb⟩
 ·obtain⟨i,hi,hname,htb⟩:=ho.tb g hg;have hRM:=b1H hm ho hi;refine (b8i h hg hk i hi htb (b4W hm ho (hm.en _ (ho.mem hg)) hi) hRM.1 hRM.2 (c2L hm ho hg hk hi hname) (by omega)).mono ?_;rintro e w' ⟨rfl,col',q1,q2⟩;exact⟨rfl,_,col',q1,ho.goes hm.tn hm.ids h.ni hg hk hi hname,hw.goes1 h.ni hg hk,hh,q2⟩
namespace Desk
end Desk
def a0s(err at_ n:Int)(en da gr ed:Value):Value:=.agg #[.int .i64 err,.int .i64 at_,.int .i64 n,en,da,gr,ed]
structure Q7(Z:World)(Q:Nat):Prop where
 q0:Z.cell? ⟨Q,0,none⟩=some (.int .i64 0)
 q1:Z.cell? ⟨Q,1,none⟩=some (.int .i64 0)
 q2:Z.cell? ⟨Q,2,none⟩=some (.int .i64 0)
 q3:Z.cell? ⟨Q,3,none⟩=some (.slice none 0 0)
 q4:Z.cell? ⟨Q,4,none⟩=some (.slice none 0 0)
 q5:Z.cell? ⟨Q,5,none⟩=some (.slice none 0 0)
 q6:Z.cell? ⟨Q,6,none⟩=some (.slice none 0 0)
 fq:∀ o,Z.frozen? ⟨Q,o,none⟩=false
def a0f:Obj:=.cells #[.int .i64 0,.int .i64 0,.int .i64 0,.slice none 0 0,.slice none 0 0,.slice none 0 0,.slice none 0 0] 40 (0,0)
theorem Q7.of(h:w.heap[Q]?=some a0f):Q7 w Q:=by
 unfold a0f at h;refine⟨?_,?_,?_,?_,?_,?_,?_,fun o=>frozen_of_row _ Q o _ _ h⟩
 all_goals (simp only[World.cell?,h];rfl)
theorem Q7.later(h:Q7 w Q)(hb:w'.heap[Q]?=w.heap[Q]?):Q7 w' Q :=
 ⟨(zo hb).trans h.q0,(zo hb).trans h.q1,(zo hb).trans h.q2,(zo hb).trans h.q3,(zo hb).trans h.q4,(zo hb).trans h.q5,(zo hb).trans h.q6,fun o=>(World.frozen?_of_block hb).trans (h.fq o)⟩
def a2w(Z:World)(Q:Nat)(a b c d e f g:Value):World:=((((((Z.setCell ⟨Q,0,none⟩ a).setCell ⟨Q,1,none⟩ b).setCell ⟨Q,2,none⟩ c).setCell ⟨Q,3,none⟩ d).setCell ⟨Q,4,none⟩ e).setCell ⟨Q,5,none⟩ f).setCell ⟨Q,6,none⟩ g
theorem a2R(Z:World)(Q:Nat)(a b c d e f g:Value):Off [Q] Z (a2w Z Q a b c d e f g) :=
 (((((((Off.refl [Q] Z).setCell (.inl (by simp)) _ _).setCell (.inl (by simp)) _ _).setCell (.inl (by simp)) _ _).setCell (.inl (by simp)) _ _).setCell (.inl (by simp)) _ _).setCell (.inl (by simp)) _ _).setCell (.inl (by simp)) _ _
theorem a2q(a:Obj):Below w.heap.size w ((w.alloc a).alloc a0f)/\((w.alloc a).alloc a0f).heap[w.heap.size+1]?=some a0f:=by
 refine⟨((zr _ _).alloc (zq _) _).alloc (by simp) _,?_⟩;have:=a0p (w.alloc a) a0f
 rwa [World.size_alloc] at this
theorem a2I.base{l:List Int}(h:a2I w B col v l)(hb:B'<=B):a2I w B' col v l:=⟨Joins.ownsRow_le h.own hb,h.no⟩
theorem a2I.append{u:Value}{l m:List Int}(h:a2I w B col v l)(k:a2I w B col u m)(hB:B<=w.heap.size)(hc:∀ b,w.heap.size<=b->col b=none)(hl:l.length+m.length<=100000):
  ∃ (v':Value) (w':World),(∀ ty,(Builtin.append_ #[38,38] ty #[v,u]).run Tryz.prog w=.ok v' w')/\a2I w' B col v' (l++m)/\w.grownBy w' v.ownBlock/\(v'.ownBlock=v.ownBlock\/v'.ownBlock=some w.heap.size):=by
 obtain⟨i0,hi0,hz0,hz1,hz2⟩:=info_parts b1S;rcases k.own.2 with ⟨rfl,h0⟩|⟨g,cap,cur,rfl,hb,hh,h1,h2,h3,h4⟩
 ·have hm:m=[]:=List.length_eq_zero_iff.1 h0;subst hm;refine⟨v,w,fun ty=>run_append_owned_none (P:=Tryz.prog) w B 38 ty 3 i0 1 Tryz.underlying38 hi0 v l.length _ h.own,by rw[List.append_nil];exact h,⟨rfl,rfl,rfl,Nat.le_refl _,fun _ _ _=>rfl⟩,.inl rfl⟩
 ·have key:=fun ty=>run_append_own_at (P:=Tryz.prog) w B 38 ty 3 i0 _ 1 8 Tryz.underlying38 hi0 hz0 hz1 hz2 rfl (by decide) v l.length _ h.own ⟨g,0,none⟩ m.length cap (m.map (Value.int .i64)) (by simp) (fun j x hx=>by
   have hj:j<m.length:=by
    have:=List.getElem?_eq_some_iff.1 hx;obtain⟨h,_⟩:=this
    simpa using h
   have e:=k.own.cellAt j (by omega);have hadd:(⟨g,0,none⟩:Addr).add j=⟨g,j,none⟩:=by unfold Addr.add;split <;> simp_all
   rw[hadd,e];exact hx) (by
   intro x hx;obtain⟨y,_,rfl⟩:=List.mem_map.1 hx
   rfl) (by unfold maxLen;omega) (by omega) hB
  obtain⟨v',w',r1,r2,r3,r4,r5⟩:=key 0;refine⟨v',w',fun ty=>?_,⟨by rw[List.length_append,List.map_append];exact r2,fun b hb=>?_⟩,r3,r5⟩
  ·exact r1
  ·rcases r5 with e|e
   ·exact h.no b (by rw[<- e];exact hb)
   ·rw[hb] at e
    cases e
    exact hc _ (zq _)
theorem b1n{P:Program}{o:Oper}{a:Act}{K:Act->World->Prop}{Q:Exit->Act->World->Prop}(s x:Operand)(t:TypeId)(v':Value)
  (ho:o.op=.call { callee:=.builtin .append,args:=#[s,x],argTypes:=#[t,t] }) (hrun:(Builtin.append_ #[t,t] o.type #[a.eval s,a.eval x]).run P w=.ok v' w') (h:K (a.put o.dst v') w'):o.wp P a w K Q:=by
 unfold Oper.wp execOp;simp only[ho,resolve,invoke,builtin,Sem.run_bind,Sem.run_pure,Result.andThen_ok,List.map_toArray,List.map_cons,List.map_nil,hrun];exact h
theorem a3u{P:Program}{ops:Array Oper}{o:Oper}{a:Act}{K:Act->World->Prop}{Q:Exit->Act->World->Prop}{E:Prop}(hgd:o.guard=none)(s x:Operand)(t:TypeId)(v':Value)
  (ho:o.op=.call { callee:=.builtin .append,args:=#[s,x],argTypes:=#[t,t] }) (hrun:(Builtin.append_ #[t,t] o.type #[a.eval s,a.eval x]).run P w=.ok v' w') (h:K (a.put o.dst v') w'):
  if Region.wanted o (yielded ops a.tmps)=true then Oper.wp P o a w K Q else E:=by
 have hw:Region.wanted o (yielded ops a.tmps)=true:=by simp[Region.wanted,hgd]
 rw[if_pos hw];exact b1n s x t v' ho hrun h
theorem d6i{P:Program}{ops:Array Oper}{rest:List Oper}{o:Oper}{a:Act}{Q:Exit->Act->World->Prop}(hgd:o.guard=none)(s x:Operand)(t:TypeId)(v':Value)
  (ho:o.op=.call { callee:=.builtin .append,args:=#[s,x],argTypes:=#[t,t] }) (hrun:(Builtin.append_ #[t,t] o.type #[a.eval s,a.eval x]).run P w=.ok v' w') (h:wpList P ops Q rest (a.put o.dst v') w'):wpList P ops Q (o :: rest) a w :=
 wpList_plain hgd fun _ hK=>b1n s x t v' ho hrun (hK _ _ h)
theorem a2k{P:Program}{ops:Array Oper}{o:Oper}{a:Act}{K:Act->World->Prop}{Q:Exit->Act->World->Prop}{E:Prop}(hgd:o.guard=none)(f:FuncId)(xs:Array Operand)(ats:Array TypeId)
  (ho:o.op=.call { callee:=.value (.func f),args:=xs,argTypes:=ats }) (args:Array Value) (ha:xs.map a.eval=args) (he:(callFunc f args).run P w=.ok (.enter f args) w) {R:Ending->World->Prop}(hc:Calls P f args w R) (h:∀ e w',R e w'->∃ v,e=.returned v/\K (a.put o.dst v) w'):
  if Region.wanted o (yielded ops a.tmps)=true then Oper.wp P o a w K Q else E:=by
 have hw:Region.wanted o (yielded ops a.tmps)=true:=by simp[Region.wanted,hgd]
 rw[if_pos hw];unfold Oper.wp
 have e1:(execOp a.eval o).run P w=.ok (.enter f args) w:=by
  simp[execOp,ho,resolve,invoke,Act.eval,Deferred.ofValue,ha,he]
 rw[e1,Oper.upon_enter];refine hc.mono ?_;intro e w' hR;obtain⟨v,rfl,hK⟩:=h e w' hR;exact hK
open Desk (Ent St Ids kept a0C a0Q a1C a2e ofB a0y a2c Mid a1H a0z Inv)
theorem a0D(err:Int)(w:World):
  Calls Tryz.prog 141 #[.int .i64 err] w fun e w'=>e=.returned (a0s err 0 0 (.slice none 0 0) (.slice none 0 0) (.slice none 0 0) (.slice none 0 0))/\Below w.heap.size w w':=by
 go_enter Tryz.func141,Tryz.ntmps141
 have HB:Hid (Below w.heap.size w (w.alloc (.cells #[.int .i64 err,.int .i64 0,.int .i64 0,.slice none 0 0,.slice none 0 0,.slice none 0 0,.slice none 0 0] 40))):=(zr _ _).alloc (zq _) _
 go_wp2_with fail
 exact bodyPost_ret (v:=a0s err 0 0 (.slice none 0 0) (.slice none 0 0) (.slice none 0 0) (.slice none 0 0)) (by simp[results,Tryz.results141,go_sem,a0s]) rfl ⟨rfl,HB.out⟩
theorem b6Z(args:Array Value)(w:World):(callFunc 65 args).run Tryz.prog w=.ok (.enter 65 args) w:=by kernel_rfl
theorem b2B(ho:Of s r)(hp:s.ts.Pairwise fun t u=>a0y t.1 u.1=false){b:Nat}(h:b2r r.tg name=some b):∃ (i:Nat)(hi:i<r.tg.length),r.tg[i].name=name/\r.tg[i].tb=b/\Desk.a0h name s.ts=r.tg[i].a0c:=by
 rw[a3r] at h
 cases e:r.tg.find? fun t=>a0y t.name name with
 |none=>rw[e] at h;cases h
 |some t =>
  rw[e] at h;obtain⟨i,hi,rfl⟩:=List.getElem_of_mem (List.mem_of_find?_eq_some e);have hn:r.tg[i].name=name:=a4l.1 (by simpa using List.find?_some e);refine⟨i,hi,hn,by simpa using h,?_⟩;have e1:=a8G hp (i:=i) (by rw[<- ho.len];exact hi);rw[ho.tsAt hi] at e1;rw[<- hn];exact e1
theorem b2C(ho:Of s r)(h:b2r r.tg name=none):Desk.a0h name s.ts=0:=by
 refine a3o (fun t ht e=>?_);rw[<- ho.ts] at ht;obtain⟨x,hx,rfl⟩:=List.mem_map.1 ht;rw[a3r] at h
 cases e2:r.tg.find? fun t=>a0y t.name name with
 |none =>
  have:=List.find?_eq_none.1 e2 x hx;exact this (a4l.2 e)
 |some y=>rw[e2] at h;cases h
def a5n(s:St)(r:Raw)(name:ByteArray)(err:Int)(e:Ending):Prop :=
 (err≠0/\e=.returned (.tuple #[.pointer none,.int .i64 err]))\/(err=0/\∃ (i:Nat) (hi:i<r.tg.length),r.tg[i].name=name/\Desk.a0h name s.ts=r.tg[i].a0c/\e=.returned (.tuple #[.pointer (some ⟨r.tg[i].tb,0,none⟩),.int .i64 0]))
theorem c5O(w:World):(zeroValue 198).run Tryz.prog w=.ok (.pointer none) w:=by simp[go_sem]
theorem b0O(h:DK w d r col)(ho:Of s r)(hm:Mid s)(name:ByteArray)(hn:name.size<=1000)(u:Int):
  Calls Tryz.prog 146 #[.pointer (some ⟨d,0,none⟩),.string name,.int .i64 u] w fun e w'=>a5n s r name (Desk.a0S s.ts name u) e/\w'=w:=by
 obtain⟨m,f,a1,a2,a3,a4⟩:=h.mt;have kk:=b4Z hn;have hlook:=a3.look c0z Tryz.underlying137 (c5O w) kk;rw[a4 name] at hlook
 cases ht:b2r r.tg name with
 |none =>
  rw[ht] at hlook;have hu:=b2C ho ht;have e1:Desk.a0S s.ts name u=3:=by unfold Desk.a0S;rw[if_pos hu]
  have hlook':(Instr.lookup 137 (.map (some m)) (.string name) false).run Tryz.prog w=.ok (.pointer none) w:=hlook;have HF:Hid (a5n s r name (Desk.a0S s.ts name u) (.returned (.tuple #[.pointer none,.int .i64 3]))):=.inl ⟨by rw[e1];omega,by rw[e1]⟩;clear hlook e1 hu ht a3 a4 h ho hm
  go_enter Tryz.func146,Tryz.ntmps146
  go_wp2_with fail
  go_ret2;exact⟨HF.out,rfl⟩
 |some b =>
  rw[ht] at hlook;obtain⟨i,hi,e1,e2,e3⟩:=b2B ho hm.tn ht;obtain⟨ul,us,Fl,Fs,t1,t2⟩:=h.th i hi;have cu:=t1.c1;rw[e2] at cu
  have hpos:Desk.a0h name s.ts≠0:=by
   rw[e3];have hin:(r.tg[i].name,r.tg[i].a0c)∈s.ts:=by rw[<- ho.tsAt hi];exact zg _
   have:=(hm.tu _ hin).1;simp only at this;omega
  have hlook':(Instr.lookup 137 (.map (some m)) (.string name) false).run Tryz.prog w=.ok (.pointer (some ⟨b,0,none⟩)) w:=hlook
  by_cases hc:r.tg[i].a0c<u
  ·have e4:Desk.a0S s.ts name u=7:=by unfold Desk.a0S;rw[if_neg hpos,if_pos (by omega)]
   have HF:Hid (a5n s r name (Desk.a0S s.ts name u) (.returned (.tuple #[.pointer none,.int .i64 7]))):=.inl ⟨by rw[e4];omega,by rw[e4]⟩;clear hlook ht a3 a4 h ho hm e1 e2 e3 t1 t2 hpos e4;generalize r.tg[i].a0c=un at *
   go_enter Tryz.func146,Tryz.ntmps146
   go_wp2_with fail
   go_ret2;exact⟨HF.out,rfl⟩
  ·have e4:Desk.a0S s.ts name u=0:=by unfold Desk.a0S;rw[if_neg hpos,if_neg (by omega)]
   have HF:Hid (a5n s r name (Desk.a0S s.ts name u) (.returned (.tuple #[.pointer (some ⟨b,0,none⟩),.int .i64 0]))):=.inr ⟨e4,i,hi,e1,e3,by rw[e2]⟩;clear hlook ht a3 a4 h ho hm e1 e2 e3 t1 t2 hpos e4;generalize r.tg[i].a0c=un at *
   go_enter Tryz.func146,Tryz.ntmps146
   go_wp2_with fail
   go_ret2;exact⟨HF.out,rfl⟩
def a1c(s:St)(name:ByteArray)(u fr til:Int):Int:=if Desk.a0S s.ts name u≠0 then Desk.a0S s.ts name u else if til<=fr then 6 else 0
theorem a4e(h:DK w d r col)(ho:Of s r)(hm:Mid s)(name:ByteArray)(hn:name.size<=1000)(u fr til:Int):
  Calls Tryz.prog 143 #[.pointer (some ⟨d,0,none⟩),.string name,.int .i64 u,.agg #[.int .i64 fr,.int .i64 til]] w fun e w'=>a5n s r name (a1c s name u fr til) e/\Below w.heap.size w w':=by
 have hX:Below w.heap.size w (w.alloc (.cells #[.int .i64 fr,.int .i64 til] 60)):=(zr _ _).alloc (zq _) _;have HV:=a0b (b0O (h.later hX) ho hm name hn u);have HX:=a0b hX;clear h ho hm hX
 go_enter Tryz.func143,Tryz.ntmps143
 go_wp2_with fail
 refine HV.out.mono ?_;rintro e w1 ⟨hp,hw1⟩;have HW:=a0b (show Below w.heap.size w w1 by rw[hw1];exact HX.out);have x0:w1.cell? ⟨w.heap.size,0,none⟩=some (.int .i64 fr):=by rw[hw1];simp
 have x1:w1.cell? ⟨w.heap.size,1,none⟩=some (.int .i64 til):=by rw[hw1];simp
 clear hw1 HV HX;rcases hp with ⟨h1,rfl⟩|⟨h1,i,hi,e1,e2,rfl⟩
 ·have HF:Hid (a5n s r name (a1c s name u fr til) (.returned (.tuple #[.pointer none,.int .i64 (Desk.a0S s.ts name u)]))):=by
   have:a1c s name u fr til=Desk.a0S s.ts name u:=by unfold a1c;rw[if_pos h1]
   rw[this];exact .inl ⟨h1,rfl⟩
  generalize Desk.a0S s.ts name u=e0 at *;have hb:(e0 != 0)=true:=by simpa using h1
  go_wp2_with fail
  go_ret2;exact⟨HF.out,HW.out⟩
 ·by_cases hc:til<=fr
  ·have HF:Hid (a5n s r name (a1c s name u fr til) (.returned (.tuple #[.pointer none,.int .i64 6]))):=by
    have:a1c s name u fr til=6:=by unfold a1c;rw[if_neg (by omega),if_pos hc]
    rw[this];exact .inl ⟨by omega,rfl⟩
   clear h1 e1 e2
   go_wp2_with fail
   go_ret2;exact⟨HF.out,HW.out⟩
  ·have HF:Hid (a5n s r name (a1c s name u fr til) (.returned (.tuple #[.pointer (some ⟨r.tg[i].tb,0,none⟩),.int .i64 0]))):=by
    have:a1c s name u fr til=0:=by unfold a1c;rw[if_neg (by omega),if_neg hc]
    rw[this];exact .inr ⟨rfl,i,hi,e1,e2,rfl⟩
   clear h1 e1 e2
   go_wp2_with fail
   go_ret2;exact⟨HF.out,HW.out⟩
def spV(p:Int × Int):List Value:=[.int .i64 p.1,.int .i64 p.2]
def a1f(p:Ent × Value):List Value:=[.int .i64 p.1.id,.int .i64 p.1.kind,.string p.1.a0k,.int .i64 p.1.a0c,p.2,.int .i64 p.1.a0Z]
structure a9V(w:World)(B:Nat)(col:Nat->Option Col)(v:Value)(L:List (Int × Int)):Prop where
 own:w.ownsRow B 60 2 v L.length (L.flatMap spV)
 no:∀ b,v.ownBlock=some b->col b=none
structure a3j(w:World)(B:Nat)(col:Nat->Option Col)(v:Value)(l:List (Ent × Value)):Prop where
 own:w.ownsRow B 58 6 v l.length (l.flatMap a1f)
 no:∀ b,v.ownBlock=some b->col b=none
 sp:∀ p∈l,a9V w B col p.2 p.1.a0e/\∀ b,p.2.ownBlock=some b->v.ownBlock≠some b
 pw:l.Pairwise fun p q=>∀ b,p.2.ownBlock=some b->q.2.ownBlock≠some b
theorem a3j.nil(w:World)(B:Nat)(col:Nat->Option Col):a3j w B col (.slice none 0 0) []:=⟨World.ownsRow_nil _ _ _ _,(fun b hb=>by cases hb),(by simp),List.Pairwise.nil⟩
def a5m(w:World)(B:Nat)(col:Nat->Option Col)(v:Value)(p:Desk.Rep):Prop :=
 ∃ (en da gr ed:Value) (l:List (Ent × Value)),v=a0s p.err p.at_ p.n en da gr ed/\l.map (·.1)=p.entries/\a3j w B col en l/\a2I w B col da p.days/\a2I w B col gr p.granted/\a2I w B col ed p.ended/\(∀ b,gr.ownBlock=some b->en.ownBlock≠some b/\da.ownBlock≠some b/\ed.ownBlock≠some b/\∀ q∈l,q.2.ownBlock≠some b)/\∀ b,da.ownBlock=some b->ed.ownBlock≠some b
theorem a5m.plain(w:World)(B:Nat)(col:Nat->Option Col)(e n:Int):a5m w B col (a0s e 0 n (.slice none 0 0) (.slice none 0 0) (.slice none 0 0) (.slice none 0 0)) ⟨e,0,n,[],[],[],[]⟩ :=
 ⟨_,_,_,_,[],rfl,rfl,a3j.nil _ _ _,a2I.nil _ _ _,a2I.nil _ _ _,a2I.nil _ _ _,(fun b hb=>by cases hb),fun b hb=>by cases hb⟩
def a0l(w:World)(d:Nat)(col:Nat->Option Col)(q:St × Desk.Rep)(v:Value)(w':World):Prop :=
 ∃ (r':Raw) (col':Nat->Option Col),DK w' d r' col'/\Of q.1 r'/\Wl r'/\Hl r'/\Step anyS w.heap.size col col' w w'/\a5m w' w.heap.size col' v q.2
structure DSt(w:World)(d:Nat)(s:St)(r:Raw)(col:Nat->Option Col):Prop where
 dk:DK w d r col
 of:Of s r
 wl:Wl r
 hl:Hl r
 inv:Inv s
theorem DSt.mid(h:DSt w d s r col):Mid s:=h.inv.mid
theorem a5I(ho:Of s r){g:EG}(hn:(r.eg.map (·.e.id)).Nodup)(hg:g∈r.eg):Desk.a5S g.e.id s.es=some g.e:=by
 unfold Desk.a5S
 cases h:s.es.find? fun e=>decide (e.id=g.e.id) with
 |none =>
  have:=List.find?_eq_none.1 h g.e (ho.mem hg);simp at this
 |some e =>
  have h1:=List.mem_of_find?_eq_some h;have h2:=List.find?_some h;obtain⟨x,hx,rfl⟩:=ho.get h1;have:x=g:=a0W _ hn hx hg (by simpa using h2);rw[this]
theorem a7K(ho:Of s r){id:Int}(h:a6U r.eg id=none):Desk.a5S id s.es=none:=by
 unfold Desk.a5S;refine List.find?_eq_none.2 (fun e he=>?_);obtain⟨x,hx,rfl⟩:=ho.get he
 simpa using b7d h x hx
theorem a5O{col':Nat->Option Col}{s':St}{r':Raw}(h1:DK Z d r' col')(h2:Of s' r')(h3:Wl r')(h4:Hl r')(h5:Step anyS w.heap.size col col' w Z)(hQ:w.heap.size<=Q)(hn:col' Q=none)(er n:Int)(a b c e f g i:Value):
  a0l w d col (s',⟨er,0,n,[],[],[],[]⟩) (a0s er 0 n (.slice none 0 0) (.slice none 0 0) (.slice none 0 0) (.slice none 0 0)) (a2w Z Q a b c e f g i):=by
 have k:=a2R Z Q a b c e f g i;have st:Step anyS w.heap.size col' col' Z (a2w Z Q a b c e f g i):=⟨⟨_,k,fun x hx=>.inr (by have:x=Q:=List.mem_singleton.1 hx;subst this;exact⟨hn,hQ⟩)⟩,fun _ _ h=>h,fun _ _ h=>.inl h⟩;exact⟨r',col',h1.off k (fun x hx=>by have:x=Q:=List.mem_singleton.1 hx;subst this;exact hn),h2,h3,h4,h5.trans st,a5m.plain _ _ _ _ _⟩
theorem DSt.said(h:DSt w d s r col)(k:Below w.heap.size w Z)(hQ:w.heap.size<=Q)(er n:Int)(a b c e f g i:Value):
  a0l w d col (s,⟨er,0,n,[],[],[],[]⟩) (a0s er 0 n (.slice none 0 0) (.slice none 0 0) (.slice none 0 0) (.slice none 0 0)) (a2w Z Q a b c e f g i) :=
 a5O (h.dk.later k) h.of h.wl h.hl (Step.below k) hQ (h.dk.none hQ) er n a b c e f g i
theorem a0B{size:Nat}(h:w.ownsRow B e size v n xs):∃ a cap,v=.slice a n cap:=by
 rcases h.2 with ⟨rfl,h0⟩|⟨g,cap,_,rfl,_⟩
 ·rw[h0];exact⟨_,_,rfl⟩
 ·exact⟨_,_,rfl⟩
theorem a9V.off{l:List (Int × Int)}(h:a9V w B col v l)(k:Off G w w')(hG:∀ x∈G,x<B):a9V w' B col v l :=
 ⟨a1i h.own k (fun b hb hx=>by have:=(h.own.lt b hb).1;have:=hG b hx;omega),h.no⟩
theorem a2I.off{l:List Int}(h:a2I w B col v l)(k:Off G w w')(hG:∀ x∈G,x<B):a2I w' B col v l :=
 ⟨a1i h.own k (fun b hb hx=>by have:=(h.own.lt b hb).1;have:=hG b hx;omega),h.no⟩
theorem a3j.off(h:a3j w B col v l)(k:Off G w w')(hG:∀ x∈G,x<B):a3j w' B col v l :=
 ⟨a1i h.own k (fun b hb hx=>by have:=(h.own.lt b hb).1;have:=hG b hx;omega),h.no,fun p hp=>⟨(h.sp p hp).1.off k hG,(h.sp p hp).2⟩,h.pw⟩
theorem a3j.base(h:a3j w B col v l)(hb:B'<=B):a3j w B' col v l :=
 ⟨Joins.ownsRow_le h.own hb,h.no,fun p hp=>⟨⟨Joins.ownsRow_le (h.sp p hp).1.own hb,(h.sp p hp).1.no⟩,(h.sp p hp).2⟩,h.pw⟩
theorem a5m.off{p:Desk.Rep}(h:a5m w B col v p)(k:Off G w w')(hG:∀ x∈G,x<B):a5m w' B col v p:=by
 obtain⟨en,da,gr,ed,l,e1,e2,e3,e4,e5,e6,e7⟩:=h;exact⟨en,da,gr,ed,l,e1,e2,e3.off k hG,e4.off k hG,e5.off k hG,e6.off k hG,e7⟩
theorem a5m.base{p:Desk.Rep}(h:a5m w B col v p)(hb:B'<=B):a5m w B' col v p:=by
 obtain⟨en,da,gr,ed,l,e1,e2,e3,e4,e5,e6,e7⟩:=h;exact⟨en,da,gr,ed,l,e1,e2,e3.base hb,e4.base hb,e5.base hb,e6.base hb,e7⟩
theorem a0l.up{q:St × Desk.Rep}(h:a0l X d col q v w2)(hb:Below w.heap.size w X)(hQ:w.heap.size<=Q)(hQX:Q<X.heap.size)(hc:col Q=none)(h7:Q7 X Q):
  ∃ (er at_ n:Int) (a1 a2 a3 a4:Option Addr) (n1 n2 n3 n4 c1 c2 c3 c4:Nat),v=a0s er at_ n (.slice a1 n1 c1) (.slice a2 n2 c2) (.slice a3 n3 c3) (.slice a4 n4 c4)/\Q7 w2 Q/\∀ a b c e f g i,a0l w d col q v (a2w w2 Q a b c e f g i):=by
 obtain⟨r',col',k1,k2,k3,k4,k5,k6⟩:=h;have hR:=k6;obtain⟨en,da,gr,ed,l,rfl,_,r1,r2,r3,r4,_⟩:=k6;obtain⟨b1,c1,rfl⟩:=a0B r1.own;obtain⟨b2,c2,rfl⟩:=r2.slice;obtain⟨b3,c3,rfl⟩:=r3.slice;obtain⟨b4,c4,rfl⟩:=r4.slice;refine⟨_,_,_,_,_,_,_,_,_,_,_,_,_,_,_,rfl,h7.later (k5.blockN hQX hc hQX),fun a b c e f g i=>?_⟩;have k:=a2R w2 Q a b c e f g i;have hn:=k5.keepN hc hQX;have hs:=hb.size;have st:Step anyS w.heap.size col' col' w2 (a2w w2 Q a b c e f g i):=⟨⟨_,k,fun x hx=>.inr (by have:x=Q:=List.mem_singleton.1 hx;subst this;exact⟨hn,hQ⟩)⟩,fun _ _ h=>h,fun _ _ h=>.inl h⟩;exact⟨r',col',k1.off k (fun x hx=>by have:x=Q:=List.mem_singleton.1 hx;subst this;exact hn),k2,k3,k4,((Step.below hb).trans (k5.any hs)).trans st,(hR.off k (fun x hx=>by have:x=Q:=List.mem_singleton.1 hx;omega)).base hs⟩
theorem a9V.later{l:List (Int × Int)}(h:a9V w B col v l)(k:Below w.heap.size w w'):a9V w' B col v l:=⟨a1g h.own k,h.no⟩
theorem a3j.later(h:a3j w B col v l)(k:Below w.heap.size w w'):a3j w' B col v l:=⟨a1g h.own k,h.no,fun p hp=>⟨(h.sp p hp).1.later k,(h.sp p hp).2⟩,h.pw⟩
def st0:St:=⟨[],[],0,0⟩
def c2z:Raw:=⟨0,0,[],[],[],[]⟩
def c1O(N:Nat)(k:Nat):Option Col:=if k=N then some .mt else if k=N+1 then some .me else if k=N+2 then some .desk else none
theorem c7w:Inv st0:=by
 refine⟨by simp[st0],by simp[st0],by simp[st0],by simp[st0,Ids],by simp[st0],by simp[st0],by simp[st0],by simp[st0],by simp[st0],by simp[st0],by simp[st0],by simp[st0,Desk.a1Y],by simp[st0],fun name x=>?_⟩;simp[st0,Desk.a0o,Desk.a0h]
def c1H(w:World)(v:Value)(w':World):Prop:=v=.pointer (some ⟨w.heap.size+2,0,none⟩)/\DSt w' (w.heap.size+2) st0 c2z (c1O w.heap.size)/\Below w.heap.size w w'
theorem b5o(w:World):Calls Tryz.prog 60 #[] w fun e w'=>∃ v,e=.returned v/\c1H w v w':=by
 have hmm:=@run_makeMap Tryz.prog
 have HF:Hid (c1H w (.pointer (some ⟨w.heap.size+2,0,none⟩)) (((w.alloc (.map #[] 0)).alloc (.map #[] 0)).alloc (.cells #[.int .i64 0,.int .i64 0,.map (some w.heap.size),.map (some (w.heap.size+1)),.slice none 0 0,.slice none 0 0] 144))):=by
  have s1:(w.alloc (.map #[] 0)).heap.size=w.heap.size+1:=by simp
  have s2:((w.alloc (.map #[] 0)).alloc (.map #[] 0)).heap.size=w.heap.size+2:=by simp
  have m1:=a4N.made Tryz.prog 9 w;have m2:=a4N.made Tryz.prog 3 (w.alloc (.map #[] 0));have hd:=a0p ((w.alloc (.map #[] 0)).alloc (.map #[] 0)) (.cells #[.int .i64 0,.int .i64 0,.map (some w.heap.size),.map (some (w.heap.size+1)),.slice none 0 0,.slice none 0 0] 144);have b1:(((w.alloc (.map #[] 0)).alloc (.map #[] 0)).alloc (.cells #[.int .i64 0,.int .i64 0,.map (some w.heap.size),.map (some (w.heap.size+1)),.slice none 0 0,.slice none 0 0] 144)).heap[w.heap.size]?=(w.alloc (.map #[] 0)).heap[w.heap.size]?:=(Below.heap_alloc _ _ _ (by omega)).trans (Below.heap_alloc _ _ _ (by omega));have b2:(((w.alloc (.map #[] 0)).alloc (.map #[] 0)).alloc (.cells #[.int .i64 0,.int .i64 0,.map (some w.heap.size),.map (some (w.heap.size+1)),.slice none 0 0,.slice none 0 0] 144)).heap[w.heap.size+1]?=((w.alloc (.map #[] 0)).alloc (.map #[] 0)).heap[w.heap.size+1]?:=Below.heap_alloc _ _ _ (by omega);have hb:Below w.heap.size w (((w.alloc (.map #[] 0)).alloc (.map #[] 0)).alloc (.cells #[.int .i64 0,.int .i64 0,.map (some w.heap.size),.map (some (w.heap.size+1)),.slice none 0 0,.slice none 0 0] 144)):=(((zr _ _).alloc (zq _) _).alloc (by omega) _).alloc (by omega) _;have s3:(((w.alloc (.map #[] 0)).alloc (.map #[] 0)).alloc (.cells #[.int .i64 0,.int .i64 0,.map (some w.heap.size),.map (some (w.heap.size+1)),.slice none 0 0,.slice none 0 0] 144)).heap.size=w.heap.size+3:=by simp
  rw[s2] at hd;rw[s1] at m2;have m1':=m1.block b1;have m2':=m2.block b2;generalize ((w.alloc (.map #[] 0)).alloc (.map #[] 0)).alloc (.cells #[.int .i64 0,.int .i64 0,.map (some w.heap.size),.map (some (w.heap.size+1)),.slice none 0 0,.slice none 0 0] 144)=Z at *;have c4:Z.cell? ⟨w.heap.size+2,4,none⟩=some (.slice none 0 0):=by simp only[World.cell?,hd];rfl
  have c5:Z.cell? ⟨w.heap.size+2,5,none⟩=some (.slice none 0 0):=by simp only[World.cell?,hd];rfl
  refine⟨rfl,⟨⟨?_,?_,⟨w.heap.size,_,?_,by simp[c1O],m1',fun n=>rfl⟩,⟨w.heap.size+1,_,?_,by simp[c1O],m2',fun n=>rfl⟩,⟨_,c4,World.ownsRow_nil _ _ _ _,fun b hb=>by cases hb⟩,⟨_,⟨c5,World.ownsRow_nil _ _ _ _,(by simp[Value.ownBlock]),frozen_of_row _ _ _ _ _ hd⟩,fun b hb=>by cases hb⟩,fun i hi=>by simp[c2z] at hi,fun g hg=>by simp[c2z] at hg,by simp[c2z],by simp[c2z],fun o=>frozen_of_row _ _ _ _ _ hd,by simp[c1O],fun k c hk=>?_⟩,⟨rfl,rfl,rfl,rfl,fun i hi=>by simp[c2z] at hi,fun g hg=>by simp[c2z] at hg⟩,rfl,⟨?_,List.Perm.nil⟩,c7w⟩,hb⟩
  ·simp only[World.cell?,hd];rfl
  ·simp only[World.cell?,hd];rfl
  ·simp only[World.cell?,hd];rfl
  ·simp only[World.cell?,hd];rfl
  ·unfold c1O at hk
   by_cases h1:k=w.heap.size
   ·omega
   ·by_cases h2:k=w.heap.size+1
    ·omega
    ·by_cases h3:k=w.heap.size+2
     ·omega
     ·simp[h1,h2,h3] at hk
  ·intro i hi1 hi2;have hi3:i<([]:List Hp.Hi).length:=by first|exact hi1|exact hi2
   simp at hi3
 go_enter Tryz.func60,Tryz.ntmps60
 go_wp2_with fail
 go_ret;exact⟨_,rfl,HF.out⟩
theorem c3O{S:Col->Prop}{W w5:World}{c4:Nat->Option Col}{base size:Nat}{gr:Value}(h:w1.ownsRow base e size v n xs)(hc:∀ b,v.ownBlock=some b->col1 b=none)(kW:Below w1.heap.size w1 W)(q5:Step S W.heap.size col1 c4 W w4)(k5:Off gr.ownBlock.toList w4 w5)(k6:Off [R] w5 Z)(hR:w1.heap.size<=R)(ha:∀ b,v.ownBlock=some b->gr.ownBlock≠some b):
  Z.ownsRow base e size v n xs/\∀ b,v.ownBlock=some b->c4 b=none:=by
 have hl:∀ b,v.ownBlock=some b->b<w1.heap.size:=fun b hb=>(h.lt b hb).2
 have hs:=kW.size;refine⟨a1i (a1i (q5.own (a1g h kW) (fun b hb=>⟨hc b hb,by have:=hl b hb;omega⟩)) k5 (fun b hb hx=>ha b hb (Option.mem_toList.1 hx))) k6 (fun b hb hx=>?_),fun b hb=>q5.keepN (hc b hb) (by have:=hl b hb;omega)⟩;have:=hl b hb;have:b=R:=List.mem_singleton.1 hx;omega
theorem b8I{s1:St}{r1:Raw}{p:Desk.Rep}{er at_ n:Int}{en da gr ed v2:Value}(hX:Below w.heap.size w X)(hQX:w.heap.size<X.heap.size)(h7:Q7 X w.heap.size)(hcQ:col w.heap.size=none)
  (k1:DK w1 d r1 col1) (k5:Step anyS X.heap.size col col1 X w1) (hl:l.map (·.1)=p.entries) (e3:a3j w1 X.heap.size col1 en l) (e4:a2I w1 X.heap.size col1 da p.days) (e5:a2I w1 X.heap.size col1 gr p.granted) (e6:a2I w1 X.heap.size col1 ed p.ended) (e7:∀ b,gr.ownBlock=some b->en.ownBlock≠some b/\da.ownBlock≠some b/\ed.ownBlock≠some b/\∀ q∈l,q.2.ownBlock≠some b) (e8:∀ b,da.ownBlock=some b->ed.ownBlock≠some b) (e1:er=p.err/\at_=p.at_/\n=p.n)
  (g:a5o (w1.alloc (.cells #[.int .i64 er,.int .i64 at_,.int .i64 n,en,da,gr,ed] 40)).drew d s1 col1 v2 w4) (hb:p.granted.length+(Desk.a0R s1.ts s1.es).2.length<=100000):
  ∃ a m cap w5,(∀ ty,(Builtin.append_ #[38,38] ty #[gr,v2]).run Tryz.prog w4=.ok (.slice a m cap) w5)/\w4.cell? ⟨w1.heap.size,5,none⟩=some gr/\w5.heap[w1.heap.size]?=some (.cells #[.int .i64 er,.int .i64 at_,.int .i64 n,en,da,gr,ed] 40 (0,0))/\Q7 (w5.setCell ⟨w1.heap.size,5,none⟩ (.slice a m cap)) w.heap.size /\
   ∀ x1 x2 x3 x4 x5 x6 x7,a0l w d col ({ s1 with es:=(Desk.a0R s1.ts s1.es).1 },{ p with granted:=p.granted++(Desk.a0R s1.ts s1.es).2 }) (a0s er at_ n en da (.slice a m cap) ed) (a2w (w5.setCell ⟨w1.heap.size,5,none⟩ (.slice a m cap)) w.heap.size x1 x2 x3 x4 x5 x6 x7):=by
 have kW:Below w1.heap.size w1 (w1.alloc (.cells #[.int .i64 er,.int .i64 at_,.int .i64 n,en,da,gr,ed] 40)).drew:=((zr _ _).alloc (zq _) _).drew;have hWR:(w1.alloc (.cells #[.int .i64 er,.int .i64 at_,.int .i64 n,en,da,gr,ed] 40)).drew.heap[w1.heap.size]?=some (.cells #[.int .i64 er,.int .i64 at_,.int .i64 n,en,da,gr,ed] 40 (0,0)):=a0p w1 _;have hWs:w1.heap.size<(w1.alloc (.cells #[.int .i64 er,.int .i64 at_,.int .i64 n,en,da,gr,ed] 40)).drew.heap.size:=by show _<(w1.alloc _).heap.size;simp
 generalize (w1.alloc (.cells #[.int .i64 er,.int .i64 at_,.int .i64 n,en,da,gr,ed] 40)).drew=W at *;obtain⟨r4,c4,q1,q2,q3,q4,q5,q6⟩:=g;have hXw:=hX.size;have hXs:=k5.size;have hRc:col1 w1.heap.size=none:=k1.none (zq _);have g4:=(e5.later kW).step q5 (zq _);obtain⟨v3,w5,a1,a2,a3,a4⟩:=g4.append (q6.base (B':=X.heap.size) (by omega)) (by have:=q5.size;omega) (fun b hb=>q1.none hb) hb;obtain⟨va,vc,rfl⟩:=a2.slice;have ko:Off gr.ownBlock.toList w4 w5:=Off.grown (Off.refl _ w4) a3 (fun k hk=>.inl (Option.mem_toList.2 hk));have hgl:∀ b,gr.ownBlock=some b->b<w1.heap.size:=fun b hb=>(e5.own.lt b hb).2
 have hR4:w4.heap[w1.heap.size]?=some _:=(q5.blockN hWs hRc hWs).trans hWR;have hR5:w5.heap[w1.heap.size]?=some _:=(ko.block _ (by have:=q5.size;omega) (fun hx=>by have:=hgl _ (Option.mem_toList.1 hx);omega)).trans hR4;have k6:=Off.set0 w1.heap.size w5 5 (.slice va (p.granted++(Desk.a0R s1.ts s1.es).2).length vc);have hcR4:c4 w1.heap.size=none:=q5.keepN hRc hWs;have hcQ1:col1 w.heap.size=none:=k5.keepN hcQ hQX;have hcQ4:c4 w.heap.size=none:=q5.keepN hcQ1 (by omega)
 have hv3:∀ b,(Value.slice va (p.granted++(Desk.a0R s1.ts s1.es).2).length vc).ownBlock=some b->gr.ownBlock=some b\/b=w4.heap.size:=fun b hb=>by
  rcases a4 with e|e
  ·exact .inl (by rw[<- e];exact hb)
  ·rw[hb] at e;exact .inr (Option.some.inj e)
 have hs4:=q5.size
 have h7':Q7 (w5.setCell ⟨w1.heap.size,5,none⟩ (.slice va (p.granted++(Desk.a0R s1.ts s1.es).2).length vc)) w.heap.size:=by
  refine h7.later ?_;have b1:=k5.blockN hQX hcQ hQX;have b2:=kW.block w.heap.size (by omega);have b3:=q5.blockN (b:=w.heap.size) (by omega) hcQ1 (by omega);have b4:=ko.block w.heap.size (by omega) (fun hx=>by have:=(e5.own.lt _ (Option.mem_toList.1 hx)).1;omega);have b5:=k6.block w.heap.size (by have:=ko.size;omega) (by simp;omega);rw[b5,b4,b3,b2,b1]
 have rEn:=c3O e3.own e3.no kW q5 ko k6 (zq _) (fun b hb hx=>(e7 b hx).1 hb);have rDa:=c3O e4.own e4.no kW q5 ko k6 (zq _) (fun b hb hx=>(e7 b hx).2.1 hb);have rEd:=c3O e6.own e6.no kW q5 ko k6 (zq _) (fun b hb hx=>(e7 b hx).2.2.1 hb)
 have rSp:∀ q∈l,a9V (w5.setCell ⟨w1.heap.size,5,none⟩ (.slice va (p.granted++(Desk.a0R s1.ts s1.es).2).length vc)) X.heap.size c4 q.2 q.1.a0e:=fun q hq=>by
  have x:=c3O (e3.sp q hq).1.own (e3.sp q hq).1.no kW q5 ko k6 (zq _) (fun b hb hx=>(e7 b hx).2.2.2 q hq hb);exact⟨x.1,x.2⟩
 refine⟨va,_,vc,w5,a1,?_,hR5,h7',fun x1 x2 x3 x4 x5 x6 x7=>?_⟩
 ·simp only[World.cell?,hR4];rfl
 ·have kq:=a2R (w5.setCell ⟨w1.heap.size,5,none⟩ (.slice va (p.granted++(Desk.a0R s1.ts s1.es).2).length vc)) w.heap.size x1 x2 x3 x4 x5 x6 x7;have hQ1:∀ x∈[w.heap.size],x<X.heap.size:=fun x hx=>by have:x=w.heap.size:=List.mem_singleton.1 hx;omega
  have hrep:a5m (w5.setCell ⟨w1.heap.size,5,none⟩ (.slice va (p.granted++(Desk.a0R s1.ts s1.es).2).length vc)) X.heap.size c4 (a0s er at_ n en da (.slice va (p.granted++(Desk.a0R s1.ts s1.es).2).length vc) ed) { p with granted:=p.granted++(Desk.a0R s1.ts s1.es).2 }:=by
   refine⟨en,da,_,ed,l,by rw[e1.1,e1.2.1,e1.2.2],hl,⟨rEn.1,rEn.2,fun q hq=>⟨rSp q hq,(e3.sp q hq).2⟩,e3.pw⟩,⟨rDa.1,rDa.2⟩,⟨a1i a2.own k6 (fun b hb hx=>?_),a2.no⟩,⟨rEd.1,rEd.2⟩,fun b hb=>?_,e8⟩
   ·have e:b=w1.heap.size:=List.mem_singleton.1 hx;rcases hv3 b hb with e2|e2
    ·have:=hgl b e2;omega
    ·omega
   ·rcases hv3 b hb with e2|e2
    ·exact e7 b e2
    ·refine⟨fun e=>?_,fun e=>?_,fun e=>?_,fun q hq e=>?_⟩
     ·have:=(e3.own.lt b e).2;omega
     ·have:=(e4.own.lt b e).2;omega
     ·have:=(e6.own.lt b e).2;omega
     ·have:=((e3.sp q hq).1.own.lt b e).2;omega
  refine⟨r4,c4,((q1.off ko (fun x hx=>g4.no x (Option.mem_toList.1 hx))).off k6 (fun x hx=>by have:x=w1.heap.size:=List.mem_singleton.1 hx;subst this;exact hcR4)).off kq (fun x hx=>by have:x=w.heap.size:=List.mem_singleton.1 hx;subst this;exact hcQ4),q2,q3,q4,?_,(hrep.off kq hQ1).base hXw⟩;have t1:Step anyS w.heap.size col col1 w w1:=(Step.below hX).trans (k5.any hXw);have t2:Step anyS w.heap.size col c4 w w4:=(t1.trans (Step.below kW)).trans (q5.any (by omega));have t3:Step anyS w.heap.size c4 c4 w4 w5:=⟨⟨_,ko,fun x hx=>.inr ⟨g4.no x (Option.mem_toList.1 hx),by have:=(e5.own.lt x (Option.mem_toList.1 hx)).1;omega⟩⟩,fun _ _ h=>h,fun _ _ h=>.inl h⟩;have t4:Step anyS w.heap.size c4 c4 w5 (w5.setCell ⟨w1.heap.size,5,none⟩ (.slice va (p.granted++(Desk.a0R s1.ts s1.es).2).length vc)):=⟨⟨_,k6,fun x hx=>.inr (by have:x=w1.heap.size:=List.mem_singleton.1 hx;subst this;exact⟨hcR4,by omega⟩)⟩,fun _ _ h=>h,fun _ _ h=>.inl h⟩;have t5:Step anyS w.heap.size c4 c4 _ _:=⟨⟨_,kq,fun x hx=>.inr (by have:x=w.heap.size:=List.mem_singleton.1 hx;subst this;exact⟨hcQ4,Nat.le_refl _⟩)⟩,fun _ _ h=>h,fun _ _ h=>.inl h⟩;exact ((t2.trans t3).trans t4).trans t5
theorem a5m.later{p:Desk.Rep}(h:a5m w B col v p)(k:Below w.heap.size w w'):a5m w' B col v p:=by
 obtain⟨en,da,gr,ed,l,e1,e2,e3,e4,e5,e6,e7⟩:=h;exact⟨en,da,gr,ed,l,e1,e2,e3.later k,e4.later k,e5.later k,e6.later k,e7⟩
theorem a0l.later{q:St × Desk.Rep}(h:a0l X d col q v w1)(k:Below w1.heap.size w1 w2):a0l X d col q v w2:=by
 obtain⟨r',col',k1,k2,k3,k4,k5,k6⟩:=h;exact⟨r',col',k1.later k,k2,k3,k4,k5.trans (Step.below k),k6.later k⟩
theorem b9u{l:Desk.a7U}(h:(Desk.a0g s l).2.err≠0):Desk.a1q s l=Desk.a0g s l:=by unfold Desk.a1q;rw[if_pos h]
theorem c2k{l:Desk.a7U}(h:(Desk.a0g s l).2.err=0):Desk.a1q s l=({ (Desk.a0g s l).1 with es:=(Desk.a0R (Desk.a0g s l).1.ts (Desk.a0g s l).1.es).1 },{ (Desk.a0g s l).2 with granted:=(Desk.a0g s l).2.granted++(Desk.a0R (Desk.a0g s l).1.ts (Desk.a0g s l).1.es).2 }):=by unfold Desk.a1q;rw[if_neg (by omega)]
theorem c7o{a b c d e f g:Value}(h:w.heap[R]?=some (.cells #[a,b,c,d,e,f,g] 40 (0,0))):w.cell? ⟨R,0,none⟩=some a/\w.cell? ⟨R,1,none⟩=some b/\w.cell? ⟨R,2,none⟩=some c/\w.cell? ⟨R,3,none⟩=some d/\w.cell? ⟨R,4,none⟩=some e/\w.cell? ⟨R,5,none⟩=some f/\w.cell? ⟨R,6,none⟩=some g/\∀ o,w.frozen? ⟨R,o,none⟩=false:=by
 refine⟨?_,?_,?_,?_,?_,?_,?_,fun o=>frozen_of_row _ R o _ _ h⟩
 all_goals (simp only[World.cell?,h];rfl)
theorem c6E(h:DSt w d s r col)(line:Value)(l:Desk.a7U)(hmd:Desk.Mid (Desk.a0g s l).1)(hgl:(Desk.a0g s l).2.granted.length<=50000)
  (hans:∀ X,Below w.heap.size w X->DSt X d s r col->Calls Tryz.prog 64 #[.pointer (some ⟨d,0,none⟩),line] X fun e w'=>∃ v,e=.returned v/\a0l X d col (Desk.a0g s l) v w'):
  Calls Tryz.prog 46 #[.pointer (some ⟨d,0,none⟩),line] w fun e w'=>∃ v,e=.returned v/\a0l w d col (Desk.a1q s l) v w':=by
 have hX:Below w.heap.size w (w.alloc a0f):=(zr _ _).alloc (zq _) _;have hq:=a0p w a0f;have hs:w.heap.size<(w.alloc a0f).heap.size:=by simp
 have AN:=a0b (hans (w.alloc a0f) hX ⟨h.dk.later hX,h.of,h.wl,h.hl,h.inv⟩);have HX:=a0b (zA hX (zA (Q7.of hq) (h.dk.none (zq _))));have HM:=a0b (zA hmd hgl);have HE:=a0b (b9u (s:=s) (l:=l));have HO:=a0b (c2k (s:=s) (l:=l));clear h hans hX hq hgl;generalize Desk.a1q s l=SD at *;generalize Desk.a0g s l=D at *
 go_enter Tryz.func46,Tryz.ntmps46
 go_upto_region 1 with fail
 change Code.wp _ _ _ _ (w.alloc a0f);generalize w.alloc a0f=X at *
 go_wp2_with fail
 refine AN.out.mono ?_;rintro e w1 ⟨v,rfl,ap⟩;have AP:=a0b ap;obtain⟨r1,col1,k1,k2,k3,k4,k5,en,da,gr,ed,l2,rfl,hl2,e3,e4,e5,e6,e7⟩:=ap;obtain⟨b1,c1,rfl⟩:=a0B e3.own;obtain⟨b2,c2,rfl⟩:=e4.slice;obtain⟨b3,c3,rfl⟩:=e5.slice;obtain⟨b4,c4,rfl⟩:=e6.slice;have hs1:=k5.size
 by_cases he:D.2.err=0
 ·have HOO:=a0b (HO.out he);have GR:=a0b (b3y (w:=(w1.alloc (.cells #[.int .i64 D.2.err,.int .i64 D.2.at_,.int .i64 D.2.n,.slice b1 l2.length c1,.slice b2 D.2.days.length c2,.slice b3 D.2.granted.length c3,.slice b4 D.2.ended.length c4] 40)).drew) (k1.later ((zr _ _).alloc (zq _) _).drew) k2 k3 k4 HM.out.1)
  have AG:=a0b (fun v2 w4 g=>b8I (w:=w) (w4:=w4) (v2:=v2) (s1:=D.1) HX.out.1 hs HX.out.2.1 HX.out.2.2 k1 k5 hl2 e3 e4 e5 e6 e7.1 e7.2 ⟨rfl,rfl,rfl⟩ g (by
   have h1:=a5e D.1.ts (D.1.es.filter Desk.a0T) (D.1.es,[]);have h2:=List.length_filter_le Desk.a0T D.1.es;have h3:=a1x HM.out.1;have e1:=Desk.a5F D.1.ts D.1.es HM.out.1.ids;have h4:=HM.out.2;simp only[List.length_nil] at h1;rw[<- e1] at h1
   omega))
  have yR:(w1.alloc (.cells #[.int .i64 D.2.err,.int .i64 D.2.at_,.int .i64 D.2.n,.slice b1 l2.length c1,.slice b2 D.2.days.length c2,.slice b3 D.2.granted.length c3,.slice b4 D.2.ended.length c4] 40)).cell? ⟨w1.heap.size,5,none⟩=some (.slice b3 D.2.granted.length c3):=by simp
  clear k1 k2 k3 k4 k5 hl2 e3 e4 e5 e6 e7 AP AN;simp only[a0s];rw[he] at GR AG yR HOO ⊢
  go_upto_region 3 with fail
  go_region_law (first
   |(refine a2k (by rfl) 65 _ _ (by rfl) _ (by simp[Act.eval,Act.put]) (b6Z _ _) GR.out ?_;rintro e w4 ⟨v2,rfl,p⟩;refine⟨_,rfl,?_⟩;obtain⟨a,m,cap,w5,hrun,g5,h5,q7,hf⟩:=AG.out v2 w4 p;have HR:=a0b hrun;have HF:=a0b hf;clear hrun hf;obtain⟨y0,y1,y2,y3,y4,y5,y6,fR⟩:=c7o h5;obtain⟨q0,q1,q2,q3,q4,q5,q6,fq⟩:=q7)
   |(refine a3u (by rfl) _ _ _ _ (by rfl) (HR.out _) ?_))
  all_goals
   have HG:=a0b (HF.out (.int .i64 0) (.int .i64 D.2.at_) (.int .i64 D.2.n) (.slice b1 l2.length c1) (.slice b2 D.2.days.length c2) (.slice a m cap) (.slice b4 D.2.ended.length c4));clear HF p GR AG HR yR g5 h5
   go_wp2_with fail
   exact bodyPost_ret (v:=a0s 0 D.2.at_ D.2.n (.slice b1 l2.length c1) (.slice b2 D.2.days.length c2) (.slice a m cap) (.slice b4 D.2.ended.length c4)) (by simp[results,Tryz.results46,go_sem,a0s,q0,q1,q2,q3,q4,q5,q6]) rfl ⟨_,rfl,by rw[HOO.out];exact HG.out⟩
 ·have hbe:(D.2.err==0)=false:=by simpa using he
  have HD:=a0b (HE.out he);have kW:Below w1.heap.size w1 (w1.alloc (.cells #[.int .i64 D.2.err,.int .i64 D.2.at_,.int .i64 D.2.n,.slice b1 l2.length c1,.slice b2 D.2.days.length c2,.slice b3 D.2.granted.length c3,.slice b4 D.2.ended.length c4] 40)):=(zr _ _).alloc (zq _) _;obtain⟨_,_,_,_,_,_,_,_,_,_,_,_,_,_,_,_,q7,hf⟩:=(AP.out.later kW).up HX.out.1 (zq _) hs HX.out.2.2 HX.out.2.1;have HF:=a0b (hf (.int .i64 D.2.err) (.int .i64 D.2.at_) (.int .i64 D.2.n) (.slice b1 l2.length c1) (.slice b2 D.2.days.length c2) (.slice b3 D.2.granted.length c3) (.slice b4 D.2.ended.length c4));obtain⟨q0,q1,q2,q3,q4,q5,q6,fq⟩:=q7;clear k1 k2 k3 k4 k5 hl2 e3 e4 e5 e6 e7 AP AN hf kW;simp only[a0s];generalize D.2.err=er at *
  go_wp2_with fail
  exact bodyPost_ret (v:=a0s er D.2.at_ D.2.n (.slice b1 l2.length c1) (.slice b2 D.2.days.length c2) (.slice b3 D.2.granted.length c3) (.slice b4 D.2.ended.length c4)) (by simp[results,Tryz.results46,go_sem,a0s,q0,q1,q2,q3,q4,q5,q6]) rfl ⟨_,rfl,by rw[HD.out];exact HF.out⟩
theorem a2a{a b:Bool}(h:a=b):Ending.returned (.bool a)=.returned (.bool b):=by rw[h]
theorem a3w{k:IntKind}{a:Int}(h:a=b):Ending.returned (.int k a)=.returned (.int k b):=by rw[h]
def Tab(w:World):Prop:=w.cell? ⟨1,0,none⟩=some (.int .i64 31)/\w.cell? ⟨1,1,none⟩=some (.int .i64 28)/\w.cell? ⟨1,2,none⟩=some (.int .i64 31)/\w.cell? ⟨1,3,none⟩=some (.int .i64 30)/\w.cell? ⟨1,4,none⟩=some (.int .i64 31)/\w.cell? ⟨1,5,none⟩=some (.int .i64 30)/\w.cell? ⟨1,6,none⟩=some (.int .i64 31)/\w.cell? ⟨1,7,none⟩=some (.int .i64 31)/\w.cell? ⟨1,8,none⟩=some (.int .i64 30)/\w.cell? ⟨1,9,none⟩=some (.int .i64 31)/\w.cell? ⟨1,10,none⟩=some (.int .i64 30)/\w.cell? ⟨1,11,none⟩=some (.int .i64 31)
theorem b8s(y:Int)(w:World)(h1:0<=y)(h2:y<=10000):
  Calls Tryz.prog 228 #[.int .i64 y] w fun e w'=>e=.returned (.bool (Cal.c2U y))/\w'=w:=by
 cases a4:(y % 4==0)
 ·go_enter Tryz.func228,Tryz.ntmps228
  go_wp2;go_ret;exact⟨a2a (by simp[Cal.c2U,a4]),rfl⟩
 ·cases a100:(y % 100 != 0)
  ·cases a400:(y % 400==0)
   all_goals
    go_enter Tryz.func228,Tryz.ntmps228
    go_wp2;go_ret;exact⟨a2a (by simp only[Cal.c2U,a4,a100,a400];rfl),rfl⟩
  ·go_enter Tryz.func228,Tryz.ntmps228
   go_wp2;go_ret;exact⟨a2a (by simp only[Cal.c2U,a4,a100];rfl),rfl⟩
theorem a3h(y:Int)(w:World)(h1:1<=y)(h2:y<=10000):
  Calls Tryz.prog 168 #[.int .i64 y] w fun e w'=>e=.returned (.int .i64 (Cal.ah y))/\w'=w:=by
 go_enter Tryz.func168,Tryz.ntmps168
 go_wp2;go_ret;exact⟨a3w (by unfold Cal.ah;omega),rfl⟩
theorem a5L(y m:Int)(w:World)(ht:Tab w)(h1:0<=y)(h2:y<=10000)(h3:1<=m)(h4:m<=12):
  Calls Tryz.prog 169 #[.int .i64 y,.int .i64 m] w fun e w'=>e=.returned (.int .i64 (Cal.dim y m))/\w'=w:=by
 obtain⟨c0,c1,c2,c3,c4,c5,c6,c7,c8,c9,c10,c11⟩:=ht;rcases Cal.c3Z m h3 h4 with h|h|h|h|h|h|h|h|h|h|h|h
 ·subst h
  go_enter Tryz.func169,Tryz.ntmps169
  go_wp2;go_ret;exact⟨a3w (by simp[Cal.dim,Cal.tab]),rfl⟩
 ·subst h
  cases hl:Cal.c2U y
  all_goals
   go_enter Tryz.func169,Tryz.ntmps169
   go_wp2_with (go_at_call 228;refine (b8s _ _ (by omega) (by omega)).mono ?_;rintro e w' ⟨rfl,rfl⟩)
   go_ret;exact⟨a3w (by simp[Cal.dim,Cal.lp,hl]),rfl⟩
 all_goals
  subst h
  go_enter Tryz.func169,Tryz.ntmps169
  go_wp2;go_ret;exact⟨a3w (by simp[Cal.dim,Cal.tab]),rfl⟩
theorem b7A(g:Int)(w:World)(h1:0<=g)(h2:g<3652059):
  Calls Tryz.prog 171 #[.int .i64 g] w fun e w'=>∃ y:Int,e=.returned (.int .i64 y)/\1<=y/\y<=9999/\Cal.ah y<=g/\g<Cal.ah (y+1)/\w'=w:=by
 have g0:=Cal.b7s g h1
 go_enter Tryz.func171,Tryz.ntmps171
 go_wp2
 go_loop [3] (fun t=>∃ y:Int,1<=y/\y<=9999/\Cal.ah y<=g/\t=.int .i64 y) (fun t=>(9999-intOf t).toNat)
 case atStart=>exact⟨_,by omega,by omega,g0,rfl⟩
 case round =>
  obtain⟨y,hy1,hy2,hy3,rfl⟩:=hrel;clear g0
  by_cases hd:Cal.ah (y+1)<=g
  ·have hy:y<9999:=by
    by_cases e:y=9999
    ·subst e;have:=Cal.b7t;rw[show (9999:Int)+1=10000 from rfl] at hd;omega
    ·omega
   go_wp2_with (go_at_call 168;refine (a3h _ _ (by omega) (by omega)).mono ?_;rintro e w' ⟨rfl,rfl⟩)
   go_round
   case rel=>exact⟨y+1,by omega,by omega,hd,rfl⟩
   case measure=>simp[intOf];omega
  ·have hd':g<Cal.ah (y+1):=by omega
   go_wp2_with (go_at_call 168;refine (a3h _ _ (by omega) (by omega)).mono ?_;rintro e w' ⟨rfl,rfl⟩)
   go_ret;exact⟨y,rfl,hy1,hy2,hy3,hd',rfl⟩
theorem a5A{d:Int}(h:¬ (1<=y/\y<=9999/\1<=m/\m<=12/\1<=d/\d<=Cal.dim y m)):Cal.ok y m d=false:=by
 unfold Cal.ok;exact decide_eq_false h
theorem b9Y{d:Int}(h:1<=y/\y<=9999/\1<=m/\m<=12/\1<=d/\d<=Cal.dim y m):Cal.ok y m d=true:=by
 unfold Cal.ok;exact decide_eq_true h
theorem b0T(y m d:Int)(w:World)(ht:Tab w):
  Calls Tryz.prog 167 #[.int .i64 y,.int .i64 m,.int .i64 d] w fun e w'=>e=.returned (.bool (Cal.ok y m d))/\w'=w:=by
 by_cases a:1<=y
 ·by_cases b:y<=9999
  ·by_cases c:1<=m
   ·by_cases f:m<=12
    ·by_cases g:1<=d
     ·by_cases k:d<=Cal.dim y m
      all_goals
       go_enter Tryz.func167,Tryz.ntmps167
       go_wp2_with (go_at_call 169;refine (a5L _ _ _ ht (by omega) (by omega) (by omega) (by omega)).mono ?_;rintro e w' ⟨rfl,rfl⟩)
       go_ret
      ·exact⟨a2a (by rw[b9Y ⟨a,b,c,f,g,k⟩]),rfl⟩
      ·exact⟨a2a (by rw[a5A (by omega)];exact decide_eq_false (by omega)),rfl⟩
     ·go_enter Tryz.func167,Tryz.ntmps167
      go_wp2;go_ret;exact⟨a2a (by rw[a5A (by omega)]),rfl⟩
    ·go_enter Tryz.func167,Tryz.ntmps167
     go_wp2;go_ret;exact⟨a2a (by rw[a5A (by omega)]),rfl⟩
   ·go_enter Tryz.func167,Tryz.ntmps167
    go_wp2;go_ret;exact⟨a2a (by rw[a5A (by omega)]),rfl⟩
  ·go_enter Tryz.func167,Tryz.ntmps167
   go_wp2;go_ret;exact⟨a2a (by rw[a5A (by omega)]),rfl⟩
 ·go_enter Tryz.func167,Tryz.ntmps167
  go_wp2;go_ret;exact⟨a2a (by rw[a5A (by omega)]),rfl⟩
theorem a9O(y m d:Int)(w:World)(ht:Tab w)(h:Cal.ok y m d=false):
  Calls Tryz.prog 112 #[.int .i64 y,.int .i64 m,.int .i64 d] w fun e w'=>e=.returned (.tuple #[.int .i64 0,.int .i64 6])/\w'=w:=by
 go_enter Tryz.func112,Tryz.ntmps112
 go_wp2_with (go_at_call 167;refine (b0T _ _ _ _ ht).mono ?_;rintro e w' ⟨rfl,rfl⟩)
 go_ret2;exact⟨rfl,rfl⟩
theorem c2w{k l:IntKind}{a c:Int}(h:a=b):Ending.returned (.tuple #[.int k a,.int l c])=.returned (.tuple #[.int k b,.int l c]):=by rw[h]
theorem a7P(y m d:Int)(w:World)(ht:Tab w)(h:Cal.ok y m d=true):
  Calls Tryz.prog 112 #[.int .i64 y,.int .i64 m,.int .i64 d] w fun e w'=>e=.returned (.tuple #[.int .i64 (Cal.num y m d),.int .i64 0])/\w'=w:=by
 obtain⟨h1,h2,h3,h4,h5,h6⟩:=(Cal.a2K y m d).1 h;have hb:=Cal.c5D y h1 (by omega);have hdb:=Cal.b3I y m;have hl:=Cal.c4Z y
 go_enter Tryz.func112,Tryz.ntmps112
 go_wp2_with (first|(go_at_call 167;refine (b0T _ _ _ _ ht).mono ?_;rintro e w' ⟨rfl,rfl⟩)|(go_at_call 168;refine (a3h _ _ (by omega) (by omega)).mono ?_;rintro e w' ⟨rfl,rfl⟩))
 go_loop [8,9] (fun n k=>∃ j:Int,1<=j/\j<=m/\k=.int .i64 j/\n=.int .i64 (-738885+Cal.ah y+d-1+Cal.cum y j)) (fun _ k=>(m-intOf k).toNat)
 case atStart=>exact⟨1,by omega,by omega,rfl,by rw[Cal.a9K,Int.add_zero]⟩
 case round =>
  obtain⟨j,hj1,hj2,rfl,rfl⟩:=hrel;have cb:=Cal.b7m y j hj1 (by omega);have db:=Cal.b3I y j;have cs:=Cal.a5M y j hj1 (by omega);have HC:Hid (Cal.cum y (j+1)=Cal.cum y j+Cal.dim y j):=cs;clear cs
  by_cases hc:j<m
  ·go_wp2_with (go_at_call 169;refine (a5L _ _ _ ht (by omega) (by omega) (by omega) (by omega)).mono ?_;rintro e w' ⟨rfl,rfl⟩)
   go_round
   case rel=>exact⟨j+1,by omega,by omega,rfl,by rw[HC.out];go_num⟩
   case measure=>simp[intOf];omega
  ·obtain rfl:j=m:=by omega
   go_wp2;go_ret2;exact⟨c2w (by unfold Cal.num Cal.first;omega),rfl⟩
theorem b2R{fn:Func}{t u v x:Tmp}(h:fn.results=#[.tmp t,.tmp u,.tmp v,.tmp x])(tmps:Array Value)(P:Program)(w:World):
  (results fn tmps).run P w=.ok (.tuple #[tmps.getD t undef,tmps.getD u undef,tmps.getD v undef,tmps.getD x undef]) w:=by
 simp[results,h]
theorem c6d(n y k:Int):Cal.num y k (n+738885-Cal.ah y-Cal.cum y k+1)=n:=by unfold Cal.num Cal.first;omega
theorem b5w(n:Int)(w:World)(ht:Tab w)(h1:-738885<=n)(h2:n<=2913173):
  Calls Tryz.prog 116 #[.int .i64 n] w fun e w'=>∃ y m d:Int,e=.returned (.tuple #[.int .i64 y,.int .i64 m,.int .i64 d,.int .i64 0])/\Cal.ok y m d=true/\Cal.num y m d=n/\w'=w:=by
 go_enter Tryz.func116,Tryz.ntmps116
 go_wp2_with (first|(go_at_call 171;refine (b7A _ _ (by omega) (by omega)).mono ?_;rintro e w' ⟨y,rfl,hy1,hy2,hy3,hy4,rfl⟩;have hb:=Cal.c5D y hy1 (by omega))|(go_at_call 168;refine (a3h _ _ (by omega) (by omega)).mono ?_;rintro e w' ⟨rfl,rfl⟩))
 have hs:=Cal.b5I y hy1;have hl:=Cal.c4Z y
 go_loop [8,9] (fun r k=>∃ m:Int,1<=m/\m<=12/\k=.int .i64 m/\0<=n+738885-Cal.ah y-Cal.cum y m/\r=.int .i64 (n+738885-Cal.ah y-Cal.cum y m)) (fun _ k=>(12-intOf k).toNat)
 case atStart=>exact⟨1,by omega,by omega,rfl,by rw[Cal.a9K];omega,by rw[Cal.a9K,Int.sub_zero]⟩
 case round =>
  obtain⟨m,hm1,hm2,rfl,hr,rfl⟩:=hrel;have cb:=Cal.b7m y m hm1 (by omega);have db:=Cal.b3I y m;have cs:=Cal.a5M y m hm1 hm2;have ce:=Cal.b5q y
  by_cases hd:Cal.dim y m<=n+738885-Cal.ah y-Cal.cum y m
  ·have hm:m<12:=by
    by_cases e:m=12
    ·subst e;rw[show (12:Int)+1=13 from rfl] at cs;omega
    ·omega
   have HC:Hid (Cal.cum y (m+1)=Cal.cum y m+Cal.dim y m):=cs;clear cs ce hs
   go_wp2_with (go_at_call 169;refine (a5L _ _ _ ht (by omega) (by omega) (by omega) (by omega)).mono ?_;rintro e w' ⟨rfl,rfl⟩)
   go_round
   case rel=>exact⟨m+1,by omega,by omega,rfl,by rw[HC.out];omega,by rw[HC.out];go_num⟩
   case measure=>simp[intOf];omega
  ·have hok:Cal.ok y m (n+738885-Cal.ah y-Cal.cum y m+1)=true:=b9Y (by omega);clear cs ce hs
   go_wp2_with (go_at_call 169;refine (a5L _ _ _ ht (by omega) (by omega) (by omega) (by omega)).mono ?_;rintro e w' ⟨rfl,rfl⟩)
   (try simp only[Exit.inBlock,Exit.then]);refine bodyPost_ret (b2R rfl _ _ _) rfl ?_
   exact⟨y,m,_,rfl,hok,c6d n y m,rfl⟩
theorem d8n(y:Int)(w:World)(h1:0<=y)(h2:y<=10000):
  Calls Tryz.prog 170 #[.int .i64 y] w fun e w'=>e=.returned (.bool (Cal.c2U y))/\w'=w:=by
 cases a100:(y % 100==0)
 ·go_enter Tryz.func170,Tryz.ntmps170
  go_wp2;go_ret;exact⟨a2a (by simp only[Cal.c2U,bne,a100];simp),rfl⟩
 ·have a4:(y % 4==0)=true:=by simp only[beq_iff_eq] at a100 ⊢;omega
  have HA:Hid ((y % 4==0)=true):=a4;clear a4
  go_enter Tryz.func170,Tryz.ntmps170
  go_wp2;go_ret;exact⟨a2a (by simp only[Cal.c2U,bne,a100,HA.out];simp),rfl⟩
theorem c9C(y:Int)(w:World)(h1:0<=y)(h2:y<=10000):
  Calls Tryz.prog 115 #[.int .i64 y] w fun e w'=>e=.returned (.int .i64 (365+Cal.lp y))/\w'=w:=by
 cases hl:Cal.c2U y
 all_goals
  go_enter Tryz.func115,Tryz.ntmps115
  go_wp2_with (go_at_call 170;refine (d8n _ _ (by omega) (by omega)).mono ?_;rintro e w' ⟨rfl,rfl⟩)
  go_ret;exact⟨a3w (by simp[Cal.lp,hl]),rfl⟩
theorem c9Q(y m:Int)(w:World)(h1:0<=y)(h2:y<=10000)(h3:1<=m)(h4:m<=12):
  Calls Tryz.prog 114 #[.int .i64 y,.int .i64 m] w fun e w'=>e=.returned (.int .i64 (Cal.dim y m))/\w'=w:=by
 rcases Cal.c3Z m h3 h4 with h|h|h|h|h|h|h|h|h|h|h|h
 ·subst h
  go_enter Tryz.func114,Tryz.ntmps114
  go_wp2;go_ret;exact⟨a3w (by simp[Cal.dim,Cal.tab]),rfl⟩
 ·subst h
  cases hl:Cal.c2U y
  all_goals
   go_enter Tryz.func114,Tryz.ntmps114
   go_wp2_with (go_at_call 170;refine (d8n _ _ (by omega) (by omega)).mono ?_;rintro e w' ⟨rfl,rfl⟩)
   go_ret;exact⟨a3w (by simp[Cal.dim,Cal.lp,hl]),rfl⟩
 all_goals
  subst h
  go_enter Tryz.func114,Tryz.ntmps114
  go_wp2;go_ret;exact⟨a3w (by simp[Cal.dim,Cal.tab]),rfl⟩
theorem e0r(y m d:Int)(w:World):
  Calls Tryz.prog 113 #[.int .i64 y,.int .i64 m,.int .i64 d] w fun e w'=>e=.returned (.bool (Cal.ok y m d))/\w'=w:=by
 by_cases a:1<=y
 ·by_cases b:y<=9999
  ·by_cases c:1<=m
   ·by_cases f:m<=12
    ·by_cases g:1<=d
     ·by_cases k:d<=Cal.dim y m
      all_goals
       go_enter Tryz.func113,Tryz.ntmps113
       go_wp2_with (go_at_call 114;refine (c9Q _ _ _ (by omega) (by omega) (by omega) (by omega)).mono ?_;rintro e w' ⟨rfl,rfl⟩)
       go_ret
      ·exact⟨a2a (by rw[b9Y ⟨a,b,c,f,g,k⟩]),rfl⟩
      ·exact⟨a2a (by rw[a5A (by omega)];exact decide_eq_false (by omega)),rfl⟩
     ·go_enter Tryz.func113,Tryz.ntmps113
      go_wp2;go_ret;exact⟨a2a (by rw[a5A (by omega)]),rfl⟩
    ·go_enter Tryz.func113,Tryz.ntmps113
     go_wp2;go_ret;exact⟨a2a (by rw[a5A (by omega)]),rfl⟩
   ·go_enter Tryz.func113,Tryz.ntmps113
    go_wp2;go_ret;exact⟨a2a (by rw[a5A (by omega)]),rfl⟩
  ·go_enter Tryz.func113,Tryz.ntmps113
   go_wp2;go_ret;exact⟨a2a (by rw[a5A (by omega)]),rfl⟩
 ·go_enter Tryz.func113,Tryz.ntmps113
  go_wp2;go_ret;exact⟨a2a (by rw[a5A (by omega)]),rfl⟩
theorem f3X(y m d:Int)(w:World)(h:Cal.ok y m d=false):
  Calls Tryz.prog 71 #[.int .i64 y,.int .i64 m,.int .i64 d] w fun e w'=>e=.returned (.tuple #[.int .i64 0,.int .i64 6])/\w'=w:=by
 go_enter Tryz.func71,Tryz.ntmps71
 go_wp2_with (go_at_call 113;refine (e0r _ _ _ _).mono ?_;rintro e w' ⟨rfl,rfl⟩)
 go_ret2;exact⟨rfl,rfl⟩
theorem d9w:Cal.ah 2024=738885:=by decide
theorem f1m(y m d:Int)(w:World)(h:Cal.ok y m d=true):
  Calls Tryz.prog 71 #[.int .i64 y,.int .i64 m,.int .i64 d] w fun e w'=>e=.returned (.tuple #[.int .i64 (Cal.num y m d),.int .i64 0])/\w'=w:=by
 obtain⟨h1,h2,h3,h4,h5,h6⟩:=(Cal.a2K y m d).1 h;have hb:=Cal.c5D y h1 (by omega);have hdb:=Cal.b3I y m;have hl:=Cal.c4Z y;have cbm:=Cal.b7m y m h3 (by omega)
 go_enter Tryz.func71,Tryz.ntmps71
 go_wp2_with (go_at_call 113;refine (e0r _ _ _ _).mono ?_;rintro e w' ⟨rfl,rfl⟩)
 go_loop [9,10,11] (fun n k _=>∃ j:Int,1<=j/\j<=m/\k=.int .i64 j/\n=.int .i64 (d-1+Cal.cum y j)) (fun _ k _=>(m-intOf k).toNat)
 case atStart=>exact⟨1,by omega,by omega,rfl,by rw[Cal.a9K,Int.add_zero]⟩
 case round =>
  obtain⟨j,hj1,hj2,rfl,rfl⟩:=hrel;have cb:=Cal.b7m y j hj1 (by omega);have db:=Cal.b3I y j;have cs:=Cal.a5M y j hj1 (by omega);have HC:Hid (Cal.cum y (j+1)=Cal.cum y j+Cal.dim y j):=cs;clear cs
  by_cases hc:j<m
  ·go_wp2_with (go_at_call 114;refine (c9Q _ _ _ (by omega) (by omega) (by omega) (by omega)).mono ?_;rintro e w' ⟨rfl,rfl⟩)
   go_round
   case rel=>exact⟨j+1,by omega,by omega,rfl,by rw[HC.out];go_num⟩
   case measure=>simp[intOf];omega
  ·obtain rfl:j=m:=by omega
   go_wp2
   go_loop [9,12,13] (fun n k _=>∃ j':Int,2024<=j'/\(j'<=y\/j'=2024)/\k=.int .i64 j'/\n=.int .i64 (d-1+Cal.cum y j+(Cal.ah j' - 738885))) (fun _ k _=>(y-intOf k).toNat)
   case atStart=>exact⟨2024,by omega,by omega,rfl,by rw[d9w];go_num⟩
   case round =>
    obtain⟨k,hk1,hk2,rfl,rfl⟩:=hrel;have kb:=Cal.c5D k (by omega) (by omega);have kl:=Cal.c4Z k;have ks:=Cal.b5I k (by omega);have HK:Hid (Cal.ah (k+1)=Cal.ah k+365+Cal.lp k):=ks;clear ks
    by_cases hk:k<y
    ·go_wp2_with (go_at_call 115;refine (c9C _ _ (by omega) (by omega)).mono ?_;rintro e w' ⟨rfl,rfl⟩)
     go_round
     case rel=>exact⟨k+1,by omega,by omega,rfl,by rw[HK.out];go_num⟩
     case measure=>simp[intOf];omega
    ·have km:Cal.ah y<=Cal.ah k:=Cal.a9T y k h1 (by omega);have hk3:(y=k)\/(y<2024/\k=2024):=by omega
     have HK3:Hid ((y=k)\/(y<2024/\k=2024)):=hk3;clear hk3;go_wp2
     go_loop [9,14,15] (fun n k' _=>∃ i:Int,y<=i/\(i<=2024\/i=y)/\k'=.int .i64 i/\n=.int .i64 (d-1+Cal.cum y j+(Cal.ah k-738885)-(Cal.ah i-Cal.ah y))) (fun _ k' _=>(2024-intOf k').toNat)
     case atStart=>exact⟨y,by omega,by omega,rfl,by go_num⟩
     case round =>
      obtain⟨i,hi1,hi2,rfl,rfl⟩:=hrel;have ib:=Cal.c5D i (by omega) (by omega);have il:=Cal.c4Z i;have is:=Cal.b5I i (by omega);have HI:Hid (Cal.ah (i+1)=Cal.ah i+365+Cal.lp i):=is;clear is
      by_cases hi:i<2024
      ·go_wp2_with (go_at_call 115;refine (c9C _ _ (by omega) (by omega)).mono ?_;rintro e w' ⟨rfl,rfl⟩)
       go_round
       case rel=>exact⟨i+1,by omega,by omega,rfl,by rw[HI.out];go_num⟩
       case measure=>simp[intOf];omega
      ·go_wp2;go_ret2;refine⟨c2w ?_,rfl⟩;have a24:=d9w;rcases HK3.out with e|⟨e1,e2⟩
       ·subst e
        by_cases hy:i=y
        ·subst hy;unfold Cal.num Cal.first;omega
        ·obtain rfl:i=2024:=by omega
         exact absurd hi1 (by omega)
       ·subst e2;obtain rfl:i=2024:=by omega
        unfold Cal.num Cal.first;omega
end Go.Proofs.YtfigmlfdnickmaaGreatDoor
