import Derived.Test.YtfigmlfdnickmaaGreatDoorL12
import Derived.RangeFuncKeeps
import Derived.RangeFuncBound
import Derived.RangeFuncLeaves
import Derived.RangeFuncBox
import Derived.Shelf.Abstract
import Derived.OwnWalkIn
import Derived.TacticsInMore
import Derived.LoopNIn
import Derived.LoopIn
import Derived.Deep.CutRange
import Derived.Deep.RegionWith
import Derived.Deep.RegionHeld3
import Derived.Maps.AppendAt
import Derived.Deep.AppendLies
import Derived.Lib.SmallJoins
import Derived.Lib.SliceRun
set_option maxRecDepth 100000
set_option maxHeartbeats 8000000
variable{name:ByteArray}{g:Go.Proofs.YtfigmlfdnickmaaGreatDoor.EG}{a b fr k long til u:Int}{B d i:Nat}{col:Nat->Option Go.Proofs.YtfigmlfdnickmaaGreatDoor.Col}{r:Go.Proofs.YtfigmlfdnickmaaGreatDoor.Raw}{s:Go.Proofs.YtfigmlfdnickmaaGreatDoor.Desk.St}{v:Go.Value}{w w1 wx:Go.World}
namespace Go.Proofs.YtfigmlfdnickmaaGreatDoor
open Go.RowKit
open Desk (Ent St Ids kept a0C a0Q a1C a2e ofB a0y a2c Mid a1H a0z Inv)
theorem b7i(h:DK w d r col)(hh:Hp.a6r r.hl)(hl:r.hl.length<=900)(g:EG):
  Calls Tryz.prog 198 #[.pointer (some ⟨d,5,none⟩),.int .i64 g.e.a0Z,.int .i64 g.e.id,.pointer (some ⟨g.eb,0,none⟩)] w fun e w'=>e=.returned (.tuple #[])/\∃ (l':List Hp.Hi) (col':Nat->Option Col),Hp.a6r l'/\l'.Perm (r.hl++[a9r g])/\DK w' d { r with hl:=l' } col'/\Step (fun c=>c=.he\/c=.desk) w.heap.size col col' w w':=by
 obtain⟨v,a1,a2⟩:=h.he;refine (c3d d 5 v r.hl (a9r g) w a1 hh hl).mono ?_;rintro e w' ⟨rfl,l',p,h1,h2⟩;obtain⟨col',k1,k2⟩:=h.heap a2 p;exact⟨rfl,l',col',h1,h2,k1,k2⟩
theorem b8F(h:b4h w B d s r col g i)(hgv:s.given<60)(hk:g.e.kind≠3):
  Calls Tryz.prog 144 #[.pointer (some ⟨d,0,none⟩),.pointer (some ⟨g.eb,0,none⟩)] w fun e w'=>∃ v,e=.returned v/\a1n w B d col (a1N s g.e) v w':=by
 have hX:Below w.heap.size w (w.alloc a0f):=(zr _ _).alloc (zq _) _;have YY:=a0b h.numd;have cg:=(h.ds.dk.later hX).c1;rw[h.ds.of.given] at cg;have hgX:=(h.en.off (G:=[]) (Off.of_below hX) (by simp) (by simp));have ck:=hgX.k;have ci:=hgX.en.c0;have fi:=hgX.fz 0;have ct:=hgX.en.c1;have hg0:=h.ds.inv.g0;have hw1:IntKind.i64.wrap (s.given+1)=s.given+1:=a0i (by omega) (by omega)
 have HN:Hid (r.hl.length<=900):=by
  have h1:=h.ds.hl.len;have h2:r.eg.length=s.es.length:=by rw[<- h.ds.of.es];simp
  have h3:=a1x h.ds.mid;show _<=_;omega
 have HH:=a0b h;have hkb:(g.e.kind==3)=false:=by simpa using hk
 have hm:=h.ds.mid;have hi:=h.hi;have hhold:=b3a hm h.ds.of (e:=(g.num (s.given+1)).e) h.ok.sp h.ok.u1 hi h.name;have hfit:=b4W hm h.ds.of (h.num (s.given+1)) hi;have hroom:=b1H hm h.ds.of hi;have hcome:=(h.ds.of.comes h.ds.inv.tn (g:=g.num (s.given+1)) h.fresh hk h.ok.ri hi h.name h.tb (s.given+1)).2;have HT:=a0b (zA hhold (zA hfit (zA hroom hcome)));clear h hX hgX hm hhold hfit hroom hcome
 go_enter Tryz.func144,Tryz.ntmps144
 go_upto_region 1 with fail
 change Code.wp _ _ _ _ (w.alloc a0f);generalize w.alloc a0f=X at *
 go_upto_region 6 with fail
 have cy:(X.setCell ⟨g.eb,0,none⟩ (.int .i64 (s.given+1))).cell? ⟨g.eb,2,none⟩=some (.pointer (some ⟨g.tb,0,none⟩)):=YY.out.en.en.c1;generalize X.setCell ⟨g.eb,0,none⟩ (.int .i64 (s.given+1))=Y at YY cy ⊢;clear cg ck ci fi ct
 cases hfit:Desk.a1e s.ts s.es g.e.a0k g.e.a0c g.e.a0e with
 |false =>
  have HD:Hid (a1N s g.e=(s,Desk.Rep.error 8)):=by
   unfold a1N;rw[if_neg (by omega),if_pos ⟨hk,hfit⟩];rfl
  have TA:=a0b (b7e YY.out.dk i HH.out.hi YY.out.en HH.out.tb (by show col g.eb≠_;rw[HH.out.ce];simp) (by show col g.B≠_;rw[HH.out.cb];simp) HT.out.2.1 (by rw[HT.out.1];exact hfit));clear hfit
  go_wp2_with fail
  refine TA.out.mono ?_;rintro e w0 ⟨rfl,c0,q1,q2⟩;have Q1:Hid (Q7 w0 w.heap.size/\c0 w.heap.size=none):=⟨YY.out.q7.later (q2.blockN YY.out.ql YY.out.qc YY.out.ql),q2.keepN YY.out.qc YY.out.ql⟩;have P1:Hid (DK w0 d r c0/\Step anyS B col c0 w w0):=⟨q1,YY.out.st.trans (q2.any (Nat.le_trans HH.out.hB YY.out.st.size))⟩;clear q1 q2 TA cy
  go_wp2_with fail
  refine (a0D 8 w0).mono ?_;rintro e w1 ⟨rfl,hb⟩;have hq:=hb.block w.heap.size (World.block_lt_of_cell? _ _ Q1.out.1.q0)
  have HF:Hid (a1n w B d col (a1N s g.e) (a0s 8 0 0 (.slice none 0 0) (.slice none 0 0) (.slice none 0 0) (.slice none 0 0)) (a2w w1 w.heap.size (.int .i64 8) (.int .i64 0) (.int .i64 0) (.slice none 0 0) (.slice none 0 0) (.slice none 0 0) (.slice none 0 0))):=by
   rw[HD.out];exact a4v (P1.out.1.later hb) HH.out.ds.of HH.out.ds.wl HH.out.ds.hl (P1.out.2.trans (Step.below hb)) HH.out.hB Q1.out.2 8 0 _ _ _ _ _ _ _
  obtain⟨q0,q1,q2,q3,q4,q5,q6,fq⟩:=Q1.out.1.later hq;simp only[a0s]
  go_wp2_with fail
  exact bodyPost_ret (v:=a0s 8 0 0 (.slice none 0 0) (.slice none 0 0) (.slice none 0 0) (.slice none 0 0)) (by simp[results,Tryz.results144,go_sem,a0s,q0,q1,q2,q3,q4,q5,q6]) rfl ⟨_,rfl,HF.out⟩
 |true =>
  have HD:Hid (a1N s g.e=Desk.a2t s g.e):=by
   unfold a1N;rw[if_neg (by omega),if_neg (by rw[hfit];simp)];rfl
  have TA:=a0b (b3F YY.out.dk i HH.out.hi YY.out.en HH.out.tb (by show col g.eb≠_;rw[HH.out.ce];simp) (by show col g.B≠_;rw[HH.out.cb];simp) HT.out.2.1 ⟨HT.out.2.2.1.1,HT.out.2.2.1.2,HT.out.2.2.2,a6b HH.out.ok.ri⟩ (by rw[HT.out.1];exact hfit));clear hfit
  go_wp2_with fail
  refine TA.out.mono ?_;rintro e w0 ⟨rfl,c0,q1,q2⟩;have TT:Hid (TL w w0 B d w.heap.size s r col g):=HH.out.took YY.out hk q1 q2;clear q1 q2 TA cy c0
  by_cases hk1:g.e.kind=1
  ·obtain⟨r1,c1,tl⟩:=TT.out;have c0:w0.cell? ⟨g.eb,0,none⟩=some (.int .i64 (s.given+1)):=tl.en.en.c0;have d1:=tl.dk.c1;have f1:=tl.dk.fz 1;obtain⟨m,s1,s2,w3,hrun,r2,c2,t2⟩:=tl.store HH.out;have T2:=a0b t2;clear tl t2
   go_upto_region 9 with fail
   generalize w0.setCell ⟨d,1,none⟩ (.int .i64 (s.given+1))=T1 at s1 s2 hrun ⊢;clear c0 d1 f1
   go_big_region
   clear hrun s1 s2;obtain⟨e1,e2,e3⟩:=T2.out.dk.en _ T2.out.mem;have k0:w3.cell? ⟨g.eb,0,none⟩=some (.int .i64 (s.given+1)):=e1.en.c0;have k1:w3.cell? ⟨g.eb,1,none⟩=some (.int .i64 g.e.kind):=e1.k;have k5:w3.cell? ⟨g.eb,5,none⟩=some (.int .i64 g.e.a0Z):=e1.u;clear e1 e2 e3;have hkb1:(g.e.kind != 1)=false:=by simpa using hk1
   have HF:Hid (a1n w B d col (a1N s g.e) (a0s 0 0 (s.given+1) (.slice none 0 0) (.slice none 0 0) (.slice none 0 0) (.slice none 0 0)) (a2w w3 w.heap.size (.int .i64 0) (.int .i64 0) (.int .i64 (s.given+1)) (.slice none 0 0) (.slice none 0 0) (.slice none 0 0) (.slice none 0 0))):=by
    rw[HD.out];have X2:=T2.out;refine a4v X2.dk X2.of X2.wl ?_ X2.st HH.out.hB X2.qc 0 (s.given+1) _ _ _ _ _ _ _;have hh:=HH.out.ds.hl.comes1 (g:=g.num (s.given+1)) hk1;unfold Hl at hh ⊢;rw[X2.eg,X2.hl];exact hh
   obtain⟨q0,q1,q2,q3,q4,q5,q6,fq⟩:=T2.out.q7
   go_wp2_with fail
   exact bodyPost_ret (v:=a0s 0 0 (s.given+1) (.slice none 0 0) (.slice none 0 0) (.slice none 0 0) (.slice none 0 0)) (by simp[results,Tryz.results144,go_sem,a0s,q0,q1,q2,q3,q4,q5,q6]) rfl ⟨_,rfl,HF.out⟩
  ·obtain⟨r1,c1,tl⟩:=TT.out;have c0:w0.cell? ⟨g.eb,0,none⟩=some (.int .i64 (s.given+1)):=tl.en.en.c0;have d1:=tl.dk.c1;have f1:=tl.dk.fz 1;obtain⟨m,s1,s2,w3,hrun,r2,c2,t2⟩:=tl.store HH.out;have T2:=a0b t2;clear tl t2
   go_upto_region 9 with fail
   generalize w0.setCell ⟨d,1,none⟩ (.int .i64 (s.given+1))=T1 at s1 s2 hrun ⊢;clear c0 d1 f1
   go_big_region
   clear hrun s1 s2;obtain⟨e1,e2,e3⟩:=T2.out.dk.en _ T2.out.mem;have k0:w3.cell? ⟨g.eb,0,none⟩=some (.int .i64 (s.given+1)):=e1.en.c0;have k1:w3.cell? ⟨g.eb,1,none⟩=some (.int .i64 g.e.kind):=e1.k;have k5:w3.cell? ⟨g.eb,5,none⟩=some (.int .i64 g.e.a0Z):=e1.u;clear e1 e2 e3;have hkb1:(g.e.kind != 1)=true:=by simpa using hk1
   have PU:=a0b (fun wx (k:Below w3.heap.size w3 wx)=>b7i (T2.out.dk.later k) (by rw[T2.out.hl];exact HH.out.ds.hl.1) (by rw[T2.out.hl];exact HN.out) (g.num (s.given+1)))
   go_upto_region 11 with fail
   go_region_held3 (fun w'=>w'.cell? ⟨g.eb,0,none⟩=some (.int .i64 (s.given+1))/\w'.cell? ⟨g.eb,5,none⟩=some (.int .i64 g.e.a0Z))
    (first
     |exact⟨k0,k5⟩
     |exact⟨((p3.en _ T2.out.mem).1).en.c0,((p3.en _ T2.out.mem).1).u⟩)
    (first
     |(go_at_call 198;refine (PU.out _ (a0q w3)).mono ?_;rintro e w4 ⟨rfl,l',c3,p1,p2,p3,p4⟩))
   have k04:w4.cell? ⟨g.eb,0,none⟩=some (.int .i64 (s.given+1)):=((p3.en _ T2.out.mem).1).en.c0;have hq:=p4.blockN T2.out.ql T2.out.qc T2.out.ql
   have HF:Hid (a1n w B d col (a1N s g.e) (a0s 0 0 (s.given+1) (.slice none 0 0) (.slice none 0 0) (.slice none 0 0) (.slice none 0 0)) (a2w w4 w.heap.size (.int .i64 0) (.int .i64 0) (.int .i64 (s.given+1)) (.slice none 0 0) (.slice none 0 0) (.slice none 0 0) (.slice none 0 0))):=by
    rw[HD.out];have X2:=T2.out;have o:=X2.of;refine a4v p3 ⟨o.now,o.given,o.ts,o.es,o.th,o.tb⟩ X2.wl ?_ ((X2.st.trans (Step.below (a0q w3))).trans (p4.any (Nat.le_trans HH.out.hB X2.st.size))) HH.out.hB (p4.keepN X2.qc X2.ql) 0 (s.given+1) _ _ _ _ _ _ _;have hh:=HH.out.ds.hl.comes (g:=g.num (s.given+1)) hk1 p1 (by rw[<- X2.hl];exact p2);unfold Hl at hh ⊢;show _/\List.Perm l' ((r2.eg.filter _).map _);rw[X2.eg];exact hh
   clear p1 p2 p3 p4 PU k0 k1 k5;obtain⟨q0,q1,q2,q3,q4,q5,q6,fq⟩:=T2.out.q7.later hq
   go_wp2_with fail
   exact bodyPost_ret (v:=a0s 0 0 (s.given+1) (.slice none 0 0) (.slice none 0 0) (.slice none 0 0) (.slice none 0 0)) (by simp[results,Tryz.results144,go_sem,a0s,q0,q1,q2,q3,q4,q5,q6]) rfl ⟨_,rfl,HF.out⟩
theorem c6n:(Tryz.prog.info? 197).map (fun i=>(i.zero,i.size,i.bytes))=some (some (.pointer none),1,8):=by kernel_rfl
theorem b8E(h:b4h w B d s r col g i)(hgv:s.given<60)(hk:g.e.kind=3)(hw6:r.wl.length<6):
  Calls Tryz.prog 144 #[.pointer (some ⟨d,0,none⟩),.pointer (some ⟨g.eb,0,none⟩)] w fun e w'=>∃ v,e=.returned v/\a1n w B d col (a1N s g.e) v w':=by
 have hX:Below w.heap.size w (w.alloc a0f):=(zr _ _).alloc (zq _) _;have YY:=a0b h.numd;have cg:=(h.ds.dk.later hX).c1;rw[h.ds.of.given] at cg;have hgX:=(h.en.off (G:=[]) (Off.of_below hX) (by simp) (by simp));have ck:=hgX.k;have ci:=hgX.en.c0;have fi:=hgX.fz 0;have ct:=hgX.en.c1;have hg0:=h.ds.inv.g0;have hw1:IntKind.i64.wrap (s.given+1)=s.given+1:=a0i (by omega) (by omega)
 have HN:Hid (r.hl.length<=900):=by
  have h1:=h.ds.hl.len;have h2:r.eg.length=s.es.length:=by rw[<- h.ds.of.es];simp
  have h3:=a1x h.ds.mid;show _<=_;omega
 have HH:=a0b h;obtain⟨i0,hi0,hz0,hz1,hz2⟩:=info_parts c6n;obtain⟨v4,c4,own4,hc4⟩:=h.numd.dk.wa
 have cX4:(w.alloc a0f).cell? ⟨d,4,none⟩=some v4:=by
  rw[<- c4];exact (zS _ _ _ _ (by simp)).symm
 obtain⟨a,cap,rfl⟩:=a0B own4;have hwn:=h.ds.wl.a1Y h.ds.of;have fd4:=h.numd.dk.fz 4;have O4:=a0b (zA own4 hc4);have hdl:=World.block_lt_of_cell? _ _ c4;have hdv:d ∉ (Value.slice a r.wl.length cap).ownBlock.toList:=fun e=>by have:=hc4 _ (Option.mem_toList.1 e);rw[h.ds.dk.dc] at this;cases this
 rw[hk] at ck;clear h hX hgX own4 hc4
 go_enter Tryz.func144,Tryz.ntmps144
 go_upto_region 1 with fail
 change Code.wp _ _ _ _ (w.alloc a0f);generalize w.alloc a0f=X at *
 have HD:Hid (a1N s g.e=Desk.a2t s g.e):=by
  unfold a1N;rw[if_neg (by omega),if_neg (by simp[hk])];rfl
 go_upto_region 5 with fail
 generalize X.setCell ⟨g.eb,0,none⟩ (.int .i64 (s.given+1))=Y at *;clear cg ck ci fi ct cX4
 go_upto_region 8 with (first
  |(at_builtin;refine wpList_append_lies _ rfl _ _ 139 rfl 0 197 i0 _ 1 8 Tryz.underlying139 hi0 hz0 hz1 hz2 rfl (by decide) _ _ _ rfl (O4.out.1.alloc _) ⟨Y.heap.size,0,none⟩ 1 1 [a5x g.eb] rfl rfl (World.news_of_block (cs:=#[a5x g.eb]) (a0p Y _)) (by simp[a5x,Value.oneCell']) (by omega) (by unfold maxLen;omega) (by omega) (by simp) (Y.heap.size+1) (by simp) ?_;intro g2 cap2 w1 hown hgrow hat hlt;have kk:Off ((Value.slice a r.wl.length cap).ownBlock.toList) Y w1:=Off.grown ((Off.refl _ Y).alloc _) hgrow (fun k hk=>.inl (Option.mem_toList.2 hk));have z1:=kk.cell hdv c4;have z2:=(kk.frozen (o:=4) hdv hdl).trans fd4;clear hgrow))
 have hat':(Value.slice a r.wl.length cap).ownBlock=some g2\/g2=Y.heap.size+1:=hat
 have SW:=a0b (YY.out.dk.setWait (wl':=r.wl++[g.eb]) (v':=.slice (some ⟨g2,0,none⟩) (r.wl.length+1) cap2) O4.out.2 kk (by rw[List.length_append,List.map_append];exact hown) (fun b hb=>by
  have:g2=b:=by simpa[Value.ownBlock] using hb
  subst this;rcases hat' with e|e
  ·exact .inl e
  ·exact .inr (by omega)))
 have TT:Hid (TL w (w1.setCell ⟨d,4,none⟩ (.slice (some ⟨g2,0,none⟩) (r.wl.length+1) cap2)) B d w.heap.size s r col g):=by
  obtain⟨c1,q1,q2⟩:=SW.out;exact HH.out.waits YY.out hk q1 q2
 clear hown kk hat hat' z1 z2 SW O4 c4 fd4;have hk1:g.e.kind≠1:=by omega
 clear hdv hdl;generalize w1.setCell ⟨d,4,none⟩ (.slice (some ⟨g2,0,none⟩) (r.wl.length+1) cap2)=w0 at TT ⊢;obtain⟨r1,c1,tl⟩:=TT.out;have c0:w0.cell? ⟨g.eb,0,none⟩=some (.int .i64 (s.given+1)):=tl.en.en.c0;have d1:=tl.dk.c1;have f1:=tl.dk.fz 1;obtain⟨m,s1,s2,w3,hrun,r2,c2,t2⟩:=tl.store HH.out;have T2:=a0b t2;clear tl t2
 go_upto_region 9 with fail
 generalize w0.setCell ⟨d,1,none⟩ (.int .i64 (s.given+1))=T1 at s1 s2 hrun ⊢;clear c0 d1 f1
 go_big_region
 clear hrun s1 s2;obtain⟨e1,e2,e3⟩:=T2.out.dk.en _ T2.out.mem;have k0:w3.cell? ⟨g.eb,0,none⟩=some (.int .i64 (s.given+1)):=e1.en.c0;have k1:w3.cell? ⟨g.eb,1,none⟩=some (.int .i64 g.e.kind):=e1.k;have k5:w3.cell? ⟨g.eb,5,none⟩=some (.int .i64 g.e.a0Z):=e1.u;clear e1 e2 e3;have hkb1:(g.e.kind != 1)=true:=by simpa using hk1
 have PU:=a0b (fun wx (k:Below w3.heap.size w3 wx)=>b7i (T2.out.dk.later k) (by rw[T2.out.hl];exact HH.out.ds.hl.1) (by rw[T2.out.hl];exact HN.out) (g.num (s.given+1)))
 go_upto_region 11 with fail
 go_region_held3 (fun w'=>w'.cell? ⟨g.eb,0,none⟩=some (.int .i64 (s.given+1))/\w'.cell? ⟨g.eb,5,none⟩=some (.int .i64 g.e.a0Z))
  (first
   |exact⟨k0,k5⟩
   |exact⟨((p3.en _ T2.out.mem).1).en.c0,((p3.en _ T2.out.mem).1).u⟩)
  (first
   |(go_at_call 198;refine (PU.out _ (a0q w3)).mono ?_;rintro e w4 ⟨rfl,l',c3,p1,p2,p3,p4⟩))
 have k04:w4.cell? ⟨g.eb,0,none⟩=some (.int .i64 (s.given+1)):=((p3.en _ T2.out.mem).1).en.c0;have hq:=p4.blockN T2.out.ql T2.out.qc T2.out.ql
 have HF:Hid (a1n w B d col (a1N s g.e) (a0s 0 0 (s.given+1) (.slice none 0 0) (.slice none 0 0) (.slice none 0 0) (.slice none 0 0)) (a2w w4 w.heap.size (.int .i64 0) (.int .i64 0) (.int .i64 (s.given+1)) (.slice none 0 0) (.slice none 0 0) (.slice none 0 0) (.slice none 0 0))):=by
  rw[HD.out];have X2:=T2.out;have o:=X2.of;refine a4v p3 ⟨o.now,o.given,o.ts,o.es,o.th,o.tb⟩ X2.wl ?_ ((X2.st.trans (Step.below (a0q w3))).trans (p4.any (Nat.le_trans HH.out.hB X2.st.size))) HH.out.hB (p4.keepN X2.qc X2.ql) 0 (s.given+1) _ _ _ _ _ _ _;have hh:=HH.out.ds.hl.comes (g:=g.num (s.given+1)) hk1 p1 (by rw[<- X2.hl];exact p2);unfold Hl at hh ⊢;show _/\List.Perm l' ((r2.eg.filter _).map _);rw[X2.eg];exact hh
 clear p1 p2 p3 p4 PU k0 k1 k5;obtain⟨q0,q1,q2,q3,q4,q5,q6,fq⟩:=T2.out.q7.later hq
 go_wp2_with fail
 exact bodyPost_ret (v:=a0s 0 0 (s.given+1) (.slice none 0 0) (.slice none 0 0) (.slice none 0 0) (.slice none 0 0)) (by simp[results,Tryz.results144,go_sem,a0s,q0,q1,q2,q3,q4,q5,q6]) rfl ⟨_,rfl,HF.out⟩
theorem a9B(h:b4h w B d s r col g i):
  Calls Tryz.prog 144 #[.pointer (some ⟨d,0,none⟩),.pointer (some ⟨g.eb,0,none⟩)] w fun e w'=>∃ v,e=.returned v/\a1n w B d col (a1N s g.e) v w':=by
 by_cases hf:s.given=60\/g.e.kind=3/\Desk.a1Y s.es=6
 ·exact b8G h.ds h.en h.hB hf
 ·have hg1:=h.ds.inv.g1;have hwa:=h.ds.inv.wa;have hwn:=h.ds.wl.a1Y h.ds.of
  by_cases hk:g.e.kind=3
  ·exact b8E h (by omega) hk (by omega)
  ·exact b8F h (by omega) hk
theorem a5W(h:a1c s name u fr til≠0):Desk.a0g s (.enter k name u fr til long)=(s,Desk.Rep.error (a1c s name u fr til)):=by
 have e:Desk.a1M s k name u fr til long=a1c s name u fr til:=by
  unfold Desk.a1M a1c at *
  by_cases h1:Desk.a0S s.ts name u≠0
  ·rw[if_pos h1,if_pos h1]
  ·rw[if_neg h1] at h ⊢;rw[if_neg h1]
   by_cases h2:til<=fr
   ·rw[if_pos h2,if_pos (.inl h2)]
   ·rw[if_neg h2] at h;omega
 simp only[Desk.a0g,e];rw[if_pos h]
theorem a1E(h:a1c s name u fr til=0):Desk.a0S s.ts name u=0/\fr<til:=by
 unfold a1c at h
 by_cases h1:Desk.a0S s.ts name u≠0
 ·rw[if_pos h1] at h;omega
 ·rw[if_neg h1] at h
  by_cases h2:til<=fr
  ·rw[if_pos h2] at h;omega
  ·omega
theorem b0W(h:a1c s name u fr til=0)(hl:s.now+long<=1048320):Desk.a0g s (.enter k name u fr til long)=a1N s (Desk.a8p s k name u fr til long):=by
 obtain⟨h1,h2⟩:=a1E h;simp only[Desk.a0g];unfold Desk.a1M a1N;rw[if_neg (c:=Desk.a0S s.ts name u≠0) (by omega),if_neg (c:=til<=fr\/1048320<s.now+long) (by omega)];have ek:(Desk.a8p s k name u fr til long).kind=k:=rfl;have et:(Desk.a8p s k name u fr til long).a0k=name:=rfl;have eu:(Desk.a8p s k name u fr til long).a0c=u:=rfl;have es:(Desk.a8p s k name u fr til long).a0e=[(fr,til)]:=rfl;rw[ek,et,eu,es]
 by_cases h3:s.given=60
 ·simp[h3]
 ·by_cases h4:k=3
  ·by_cases h5:Desk.a1Y s.es=6
   ·simp[h3,h4,h5]
   ·simp[h3,h4,h5]
  ·cases Desk.a1e s.ts s.es name u [(fr,til)] <;> simp[h3,h4]
def c7l(k:Int)(name:ByteArray)(u fr til un:Int)(N tb:Nat):EG:=⟨⟨0,k,name,u,[(fr,til)],un⟩,N+1,N,1,tb⟩
theorem DSt.asks(h:DSt w d s r col)(kb:Below w.heap.size w w1){un:Int}(hi:i<r.tg.length)(hname:r.tg[i].name=name)(ok:a1H s.now ⟨0,k,name,u,[(fr,til)],un⟩):
  b4h ((w1.alloc (.cells #[.int .i64 fr,.int .i64 til] 60)).alloc (.cells #[.int .i64 0,.int .i64 k,.pointer (some ⟨r.tg[i].tb,0,none⟩),.int .i64 u,.slice (some ⟨w1.heap.size,0,none⟩) 1 1,.int .i64 un] 200)) w1.heap.size d s r col (c7l k name u fr til un w1.heap.size r.tg[i].tb) i:=by
 have kz:Below w1.heap.size w1 ((w1.alloc (.cells #[.int .i64 fr,.int .i64 til] 60)).alloc (.cells #[.int .i64 0,.int .i64 k,.pointer (some ⟨r.tg[i].tb,0,none⟩),.int .i64 u,.slice (some ⟨w1.heap.size,0,none⟩) 1 1,.int .i64 un] 200)):=((zr _ _).alloc (zq _) _).alloc (by simp) _;have d1:=h.dk.later kb
 have eb:((w1.alloc (.cells #[.int .i64 fr,.int .i64 til] 60)).alloc (.cells #[.int .i64 0,.int .i64 k,.pointer (some ⟨r.tg[i].tb,0,none⟩),.int .i64 u,.slice (some ⟨w1.heap.size,0,none⟩) 1 1,.int .i64 un] 200)).heap[w1.heap.size+1]?=some (.cells #[.int .i64 0,.int .i64 k,.pointer (some ⟨r.tg[i].tb,0,none⟩),.int .i64 u,.slice (some ⟨w1.heap.size,0,none⟩) 1 1,.int .i64 un] 200 (0,0)):=by
  have:=a0p (w1.alloc (.cells #[.int .i64 fr,.int .i64 til] 60)) (.cells #[.int .i64 0,.int .i64 k,.pointer (some ⟨r.tg[i].tb,0,none⟩),.int .i64 u,.slice (some ⟨w1.heap.size,0,none⟩) 1 1,.int .i64 un] 200)
  rwa [World.size_alloc] at this
 have sb:((w1.alloc (.cells #[.int .i64 fr,.int .i64 til] 60)).alloc (.cells #[.int .i64 0,.int .i64 k,.pointer (some ⟨r.tg[i].tb,0,none⟩),.int .i64 u,.slice (some ⟨w1.heap.size,0,none⟩) 1 1,.int .i64 un] 200)).heap[w1.heap.size]?=some (.cells #[.int .i64 fr,.int .i64 til] 60 (0,0)) :=
  (Below.heap_alloc _ _ _ (by simp)).trans (a0p w1 _)
 have hs:((w1.alloc (.cells #[.int .i64 fr,.int .i64 til] 60)).alloc (.cells #[.int .i64 0,.int .i64 k,.pointer (some ⟨r.tg[i].tb,0,none⟩),.int .i64 u,.slice (some ⟨w1.heap.size,0,none⟩) 1 1,.int .i64 un] 200)).heap.size=w1.heap.size+2:=by simp
 generalize (w1.alloc (.cells #[.int .i64 fr,.int .i64 til] 60)).alloc (.cells #[.int .i64 0,.int .i64 k,.pointer (some ⟨r.tg[i].tb,0,none⟩),.int .i64 u,.slice (some ⟨w1.heap.size,0,none⟩) 1 1,.int .i64 un] 200)=Z at *;refine⟨⟨d1.later kz,h.of,h.wl,h.hl,h.inv⟩,⟨⟨?_,?_,?_,?_,fun j hj=>?_,?_⟩,?_,?_,fun o=>frozen_of_row _ _ _ _ _ eb,⟨_,eb⟩⟩,d1.none (Nat.le_succ _),d1.none (zq _),Nat.le_succ _,Nat.le_refl _,(by show w1.heap.size+1≠w1.heap.size;omega),kz.size,hi,hname,rfl,ok⟩
 ·show Z.cell? ⟨w1.heap.size+1,0,none⟩=_;simp only[World.cell?,eb];rfl
 ·show Z.cell? ⟨w1.heap.size+1,2,none⟩=_;simp only[World.cell?,eb];rfl
 ·show Z.cell? ⟨w1.heap.size+1,3,none⟩=_;simp only[World.cell?,eb];rfl
 ·show Z.cell? ⟨w1.heap.size+1,4,none⟩=_;simp only[World.cell?,eb];rfl
 ·have hj0:j=0:=by simp[c7l] at hj;omega
  subst hj0;constructor
  ·show Z.cell? ⟨w1.heap.size,0,none⟩=_;simp only[World.cell?,sb];rfl
  ·show Z.cell? ⟨w1.heap.size,1,none⟩=_;simp only[World.cell?,sb];rfl
 ·show w1.heap.size<_;omega
 ·show Z.cell? ⟨w1.heap.size+1,1,none⟩=_;simp only[World.cell?,eb];rfl
 ·show Z.cell? ⟨w1.heap.size+1,5,none⟩=_;simp only[World.cell?,eb];rfl
theorem a1n.ans{Z w2:World}{Q:Nat}{q:St × Desk.Rep}(h:a1n Z B d col q v w2)(st:Step anyS w.heap.size col col w Z)(hB:w.heap.size<=B)(hQ:w.heap.size<=Q)(hQB:Q<B)(hc:col Q=none)(h7:Q7 Z Q):
  ∃ er n:Int,v=a0s er 0 n (.slice none 0 0) (.slice none 0 0) (.slice none 0 0) (.slice none 0 0)/\Q7 w2 Q/\∀ a b c e f g i,a0l w d col q (a0s er 0 n (.slice none 0 0) (.slice none 0 0) (.slice none 0 0) (.slice none 0 0)) (a2w w2 Q a b c e f g i):=by
 obtain⟨er,n,r',col',rfl,e2,k1,k2,k3,k4,k5⟩:=h;have hl:=World.block_lt_of_cell? _ _ h7.q0;refine⟨er,n,rfl,h7.later (k5.blockN hl hc hQB),fun a b c e f g i=>?_⟩;have:q=(q.1,⟨er,0,n,[],[],[],[]⟩):=by rw[<- e2]
 rw[this];exact a5O k1 k2 k3 k4 (st.trans (k5.any hB)) hQ (k5.keepN hc hQB) er n a b c e f g i
theorem c3F(h:DSt w d s r col)(name:ByteArray)(hn:name.size<=1000)(u fr til:Int)(hl:Desk.a1O (.enter 1 name u fr til 0)):
  Calls Tryz.prog 92 #[.pointer (some ⟨d,0,none⟩),.agg #[.string name,.int .i64 u,.int .i64 fr,.int .i64 til]] w fun e w'=>∃ v,e=.returned v/\a0l w d col (Desk.a0g s (.enter 1 name u fr til 0)) v w':=by
 obtain⟨hX,hXQ⟩:=a2q (w:=w) (.cells #[.string name,.int .i64 u,.int .i64 fr,.int .i64 til] 154);have AK:=a0b (a4e (h.dk.later hX) h.of h.mid name hn u fr til);have HH:=a0b h;have HX:=a0b (zA hX hXQ);have xa:((w.alloc (.cells #[.string name,.int .i64 u,.int .i64 fr,.int .i64 til] 154)).alloc a0f).cell? ⟨w.heap.size,0,none⟩=some (.string name):=by simp[a0f]
 have xb:((w.alloc (.cells #[.string name,.int .i64 u,.int .i64 fr,.int .i64 til] 154)).alloc a0f).cell? ⟨w.heap.size,1,none⟩=some (.int .i64 u):=by simp[a0f]
 have xc:((w.alloc (.cells #[.string name,.int .i64 u,.int .i64 fr,.int .i64 til] 154)).alloc a0f).cell? ⟨w.heap.size,2,none⟩=some (.int .i64 fr):=by simp[a0f]
 have xd:((w.alloc (.cells #[.string name,.int .i64 u,.int .i64 fr,.int .i64 til] 154)).alloc a0f).cell? ⟨w.heap.size,3,none⟩=some (.int .i64 til):=by simp[a0f]
 have hNX:w.heap.size+1<((w.alloc (.cells #[.string name,.int .i64 u,.int .i64 fr,.int .i64 til] 154)).alloc a0f).heap.size:=by simp
 clear h hX hXQ
 go_enter Tryz.func92,Tryz.ntmps92
 go_upto_region 1 with fail
 change Code.wp _ _ _ _ ((w.alloc (.cells #[.string name,.int .i64 u,.int .i64 fr,.int .i64 til] 154)).alloc a0f);generalize (w.alloc (.cells #[.string name,.int .i64 u,.int .i64 fr,.int .i64 til] 154)).alloc a0f=X at *
 go_wp2_with fail
 refine AK.out.mono ?_;rintro e w1 ⟨hp,hb⟩;have BX:Hid (Below w.heap.size w w1):=HX.out.1.trans (hb.mono HX.out.1.size);have QX:Hid (Q7 w1 (w.heap.size+1)):=(Q7.of HX.out.2).later (hb.block _ hNX);rcases hp with ⟨h1,rfl⟩|⟨h1,i,hi,e1,e2,rfl⟩
 ·have HD:=a0b (a5W (k:=1) (long:=0) h1);generalize a1c s name u fr til=er at *;have hb1:(er != 0)=true:=by simpa using h1
  clear h1 AK HX hb xa xb xc xd
  go_wp2_with fail
  refine (a0D er w1).mono ?_;rintro e w2 ⟨rfl,hb2⟩;have hq:=hb2.block (w.heap.size+1) (World.block_lt_of_cell? _ _ QX.out.q0)
  have HF:Hid (a0l w d col (Desk.a0g s (.enter 1 name u fr til 0)) (a0s er 0 0 (.slice none 0 0) (.slice none 0 0) (.slice none 0 0) (.slice none 0 0)) (a2w w2 (w.heap.size+1) (.int .i64 er) (.int .i64 0) (.int .i64 0) (.slice none 0 0) (.slice none 0 0) (.slice none 0 0) (.slice none 0 0))):=by
   rw[HD.out];exact HH.out.said (BX.out.trans (hb2.mono BX.out.size)) (by omega) er 0 _ _ _ _ _ _ _
  obtain⟨q0,q1,q2,q3,q4,q5,q6,fq⟩:=QX.out.later hq;simp only[a0s]
  go_wp2_with fail
  exact bodyPost_ret (v:=a0s er 0 0 (.slice none 0 0) (.slice none 0 0) (.slice none 0 0) (.slice none 0 0)) (by simp[results,Tryz.results92,go_sem,a0s,q0,q1,q2,q3,q4,q5,q6]) rfl ⟨_,rfl,HF.out⟩
 ·have HD:=a0b (b0W (k:=1) (long:=0) h1 (by have:=HH.out.inv.n1;omega));have y1:=(zo (w:=X) (a:=⟨w.heap.size,1,none⟩) (hb.block w.heap.size (by omega))).trans xb;have y2:=(zo (w:=X) (a:=⟨w.heap.size,2,none⟩) (hb.block w.heap.size (by omega))).trans xc;have y3:=(zo (w:=X) (a:=⟨w.heap.size,3,none⟩) (hb.block w.heap.size (by omega))).trans xd;have EN:=a0b (a9B (HH.out.asks BX.out (k:=1) (u:=u) (fr:=fr) (til:=til) (un:=0) hi e1 ⟨hl.2.1,hl.2.2.1,(by show 1<=40;omega),(by simp),(by intro q hq;have:q=(fr,til):=List.mem_singleton.1 hq;subst this;have:=(a1E h1).2;exact⟨hl.2.2.2.1,this,hl.2.2.2.2.2.2⟩),List.pairwise_singleton _ _,.inl ⟨rfl,rfl⟩⟩));have AL:Hid (Below w1.heap.size w1 ((w1.alloc (.cells #[.int .i64 fr,.int .i64 til] 60)).alloc (.cells #[.int .i64 0,.int .i64 1,.pointer (some ⟨r.tg[i].tb,0,none⟩),.int .i64 u,.slice (some ⟨w1.heap.size,0,none⟩) 1 1,.int .i64 0] 200))):=((zr _ _).alloc (zq _) _).alloc (by simp) _;have QL:Hid (w.heap.size+1<w1.heap.size):=World.block_lt_of_cell? _ _ QX.out.q0;clear h1 AK HX hb xa xb xc xd e1 e2
  go_wp2_with fail
  refine EN.out.mono ?_;rintro e w2 ⟨v,rfl,ep⟩;obtain⟨er,n,rfl,q7,hf⟩:=ep.ans (Q:=(w.heap.size+1)) (Step.below (BX.out.trans (AL.out.mono BX.out.size))) BX.out.size (by omega) QL.out (HH.out.dk.none (by omega)) (QX.out.later (AL.out.block _ QL.out))
  have HF:Hid (a0l w d col (Desk.a0g s (.enter 1 name u fr til 0)) (a0s er 0 n (.slice none 0 0) (.slice none 0 0) (.slice none 0 0) (.slice none 0 0)) (a2w w2 (w.heap.size+1) (.int .i64 er) (.int .i64 0) (.int .i64 n) (.slice none 0 0) (.slice none 0 0) (.slice none 0 0) (.slice none 0 0))):=by
   rw[HD.out];exact hf _ _ _ _ _ _ _
  clear ep hf EN;obtain⟨q0,q1,q2,q3,q4,q5,q6,fq⟩:=q7;simp only[a0s]
  go_wp2_with fail
  exact bodyPost_ret (v:=a0s er 0 n (.slice none 0 0) (.slice none 0 0) (.slice none 0 0) (.slice none 0 0)) (by simp[results,Tryz.results92,go_sem,a0s,q0,q1,q2,q3,q4,q5,q6]) rfl ⟨_,rfl,HF.out⟩
theorem DSt.levels(h:DSt w d s r col)(hi:i<r.tg.length):∀ p,0<=a1C r.tg[i].name s.es p/\a1C r.tg[i].name s.es p<=1000000:=fun p=>by
 have h1:=Desk.a7j r.tg[i].name p s.es h.mid.small;have h2:=a1x h.mid;omega
theorem c1l(h:DSt w d s r col)(k:Below w.heap.size w wx)(hi:i<r.tg.length)(h0:0<=a)(h1:a<b)(h2:b<=1048320):
  Calls Tryz.prog 153 #[.pointer (some ⟨r.tg[i].tb,2,none⟩),.agg #[.int .i64 a,.int .i64 b]] wx fun e w'=>e=.returned (.int .i64 (Desk.a1Q r.tg[i].name s.es a b))/\Below wx.heap.size wx w':=by
 obtain⟨ul,us,Fl,Fs,t1,t2⟩:=(h.dk.later k).th i hi;have hA:=h.levels hi;have e:=Desk.c0m (name:=r.tg[i].name) h.mid.small (a6d h.mid) h0 h1 h2;unfold b4T at e;have lv:=t1.lv;rw[(h.of.th i hi).1] at lv;refine (b7x (b1M (a1C r.tg[i].name s.es)) _ 2 ul Fl a b wx t1.c2 lv (a9e hA) (a6L (fun p=>(hA p).1)) h1).mono ?_;rintro e2 w' ⟨rfl,hb⟩;exact⟨by rw[<- e],hb⟩
theorem c1k(h:DSt w d s r col)(k:Below w.heap.size w wx)(hi:i<r.tg.length)(h0:0<=a)(h1:a<b)(h2:b<=1048320)(h3:1<=long)(h4:long<=1048320)(hu:0<=u):
  Calls Tryz.prog 154 #[.pointer (some ⟨r.tg[i].tb,2,none⟩),.agg #[.int .i64 a,.int .i64 b],.int .i64 long,.int .i64 (r.tg[i].a0c-u)] wx fun e w'=>∃ q:Option Int,e=.returned (fmV q)/\Desk.a9A s.ts s.es r.tg[i].name u long a b=Desk.c3V q/\Below wx.heap.size wx w':=by
 obtain⟨ul,us,Fl,Fs,t1,t2⟩:=(h.dk.later k).th i hi;have hA:=h.levels hi;have lv:=t1.lv;rw[(h.of.th i hi).1] at lv
 have hun:Desk.a0h r.tg[i].name s.ts=r.tg[i].a0c:=by
  have e1:=a8G h.mid.tn (i:=i) (by rw[<- h.of.len];exact hi);rw[h.of.tsAt hi] at e1;exact e1
 refine (c3K (b1M (a1C r.tg[i].name s.es)) _ 2 ul Fl a b long (r.tg[i].a0c-u) wx t1.c2 lv (a9e hA) (a6L (fun p=>(hA p).1)) h0 h1 h2 h3 h4).mono ?_;rintro e2 w' ⟨q,rfl,hq,hb⟩;rw[<- hun] at hq;exact⟨q,rfl,Desk.b9G h.mid.small (a6d h.mid) h0 h2 hu h3 hq,hb⟩
theorem b2e(hm:Mid s)(h:a1c s name 0 fr til≠0):Desk.a0g s (.peak name fr til)=(s,Desk.Rep.error (a1c s name 0 fr til)):=by
 have hn:=Desk.a4g hm.tu name;simp only[Desk.a0g];unfold a1c Desk.a0S at *
 by_cases h1:Desk.a0h name s.ts=0
 ·rw[if_pos h1];simp[h1]
 ·have h2:¬ (Desk.a0h name s.ts<0):=by omega
  simp only[h1,h2] at h ⊢
  by_cases h3:til<=fr
  ·simp[h3]
  ·simp[h3] at h
theorem c1a(h:a1c s name 0 fr til=0):Desk.a0g s (.peak name fr til)=(s,Desk.Rep.num (Desk.a1Q name s.es fr til)):=by
 obtain⟨h1,h2⟩:=a1E h;have h3:Desk.a0h name s.ts≠0:=fun e=>by unfold Desk.a0S at h1;rw[if_pos e] at h1;omega
 simp only[Desk.a0g];rw[if_neg h3,if_neg (by omega)]
theorem c5t(args:Array Value)(w:World):(callFunc 153 args).run Tryz.prog w=.ok (.enter 153 args) w:=by kernel_rfl
theorem c2D(h:DSt w d s r col)(name:ByteArray)(hn:name.size<=1000)(fr til:Int)(hl:Desk.a1O (.peak name fr til)):
  Calls Tryz.prog 100 #[.pointer (some ⟨d,0,none⟩),.agg #[.string name,.int .i64 fr,.int .i64 til]] w fun e w'=>∃ v,e=.returned v/\a0l w d col (Desk.a0g s (.peak name fr til)) v w':=by
 obtain⟨hX,hXQ⟩:=a2q (w:=w) (.cells #[.string name,.int .i64 fr,.int .i64 til] 176);have x0:((w.alloc (.cells #[.string name,.int .i64 fr,.int .i64 til] 176)).alloc a0f).cell? ⟨w.heap.size,0,none⟩=some (.string name):=by simp[a0f]
 have x1:((w.alloc (.cells #[.string name,.int .i64 fr,.int .i64 til] 176)).alloc a0f).cell? ⟨w.heap.size,1,none⟩=some (.int .i64 fr):=by simp[a0f]
 have x2:((w.alloc (.cells #[.string name,.int .i64 fr,.int .i64 til] 176)).alloc a0f).cell? ⟨w.heap.size,2,none⟩=some (.int .i64 til):=by simp[a0f]
 have hNX:w.heap.size+1<((w.alloc (.cells #[.string name,.int .i64 fr,.int .i64 til] 176)).alloc a0f).heap.size:=by simp
 have AK:=a0b (a4e (h.dk.later hX) h.of h.mid name hn 0 fr til);have HH:=a0b h;have HX:=a0b (zA hX hXQ);clear h hX hXQ
 go_enter Tryz.func100,Tryz.ntmps100
 go_upto_region 1 with fail
 change Code.wp _ _ _ _ ((w.alloc (.cells #[.string name,.int .i64 fr,.int .i64 til] 176)).alloc a0f);generalize (w.alloc (.cells #[.string name,.int .i64 fr,.int .i64 til] 176)).alloc a0f=X at *
 go_wp2_with fail
 refine AK.out.mono ?_;rintro e w1 ⟨hp,hb⟩;have BX:Hid (Below w.heap.size w w1):=HX.out.1.trans (hb.mono HX.out.1.size);have QX:Hid (Q7 w1 (w.heap.size+1)):=(Q7.of HX.out.2).later (hb.block _ hNX);rcases hp with ⟨h1,rfl⟩|⟨h1,i,hi,e1,e2,rfl⟩
 ·have HD:=a0b (b2e HH.out.mid h1);generalize a1c s name 0 fr til=er at *;have hb1:(er != 0)=true:=by simpa using h1
  clear h1 AK HX hb x0 x1 x2
  go_wp2_with fail
  refine (a0D er w1).mono ?_;rintro e w2 ⟨rfl,hb2⟩;have hq:=hb2.block (w.heap.size+1) (World.block_lt_of_cell? _ _ QX.out.q0)
  have HF:Hid (a0l w d col (Desk.a0g s (.peak name fr til)) (a0s er 0 0 (.slice none 0 0) (.slice none 0 0) (.slice none 0 0) (.slice none 0 0)) (a2w w2 (w.heap.size+1) (.int .i64 er) (.int .i64 0) (.int .i64 0) (.slice none 0 0) (.slice none 0 0) (.slice none 0 0) (.slice none 0 0))):=by
   rw[HD.out];exact HH.out.said (BX.out.trans (hb2.mono BX.out.size)) (by omega) er 0 _ _ _ _ _ _ _
  obtain⟨q0,q1,q2,q3,q4,q5,q6,fq⟩:=QX.out.later hq;simp only[a0s]
  go_wp2_with fail
  exact bodyPost_ret (v:=a0s er 0 0 (.slice none 0 0) (.slice none 0 0) (.slice none 0 0) (.slice none 0 0)) (by simp[results,Tryz.results100,go_sem,a0s,q0,q1,q2,q3,q4,q5,q6]) rfl ⟨_,rfl,HF.out⟩
 ·have HD:=a0b (c1a h1);have y1:=(zo (w:=X) (a:=⟨w.heap.size,1,none⟩) (hb.block w.heap.size (by omega))).trans x1;have y2:=(zo (w:=X) (a:=⟨w.heap.size,2,none⟩) (hb.block w.heap.size (by omega))).trans x2;have MC:=a0b (c1l HH.out (wx:=w1.drew) BX.out.drew hi hl.1 (a1E h1).2 hl.2.2.2);rw[e1] at MC;have AF:Hid (∀ w2,Below w1.drew.heap.size w1.drew w2->Q7 w2 (w.heap.size+1)/\a0l w d col (Desk.a0g s (.peak name fr til)) (a0s 0 0 (Desk.a1Q name s.es fr til) (.slice none 0 0) (.slice none 0 0) (.slice none 0 0) (.slice none 0 0)) (a2w w2 (w.heap.size+1) (.int .i64 0) (.int .i64 0) (.int .i64 (Desk.a1Q name s.es fr til)) (.slice none 0 0) (.slice none 0 0) (.slice none 0 0) (.slice none 0 0))):=fun w2 k2=>⟨QX.out.later (k2.block _ (World.block_lt_of_cell? _ _ QX.out.q0)),by rw[HD.out];exact HH.out.said (BX.out.drew.trans (k2.mono BX.out.size)) (by omega) 0 (Desk.a1Q name s.es fr til) _ _ _ _ _ _ _⟩
  clear h1 AK HX hb x0 x1 x2 e1 e2 HD;generalize (Desk.a1Q name s.es fr til)=nn at *
  go_upto_region 4 with fail
  go_region_law (first
   |(refine a2k (by rfl) 153 _ _ (by rfl) _ (by simp[Act.eval]) (c5t _ _) MC.out ?_;rintro e w2 ⟨rfl,hb2⟩;refine⟨_,rfl,?_⟩;have FF:=a0b (AF.out w2 hb2);obtain⟨⟨q0,q1,q2,q3,q4,q5,q6,fq⟩,_⟩:=AF.out w2 hb2))
  all_goals
   go_wp2_with fail
   exact bodyPost_ret (v:=a0s 0 0 nn (.slice none 0 0) (.slice none 0 0) (.slice none 0 0) (.slice none 0 0)) (by simp[results,Tryz.results100,go_sem,a0s,q0,q1,q2,q3,q4,q5,q6]) rfl ⟨_,rfl,FF.out.2⟩
theorem b2f(h:a1c s name u fr til≠0):Desk.a0g s (.find name u long fr til)=(s,Desk.Rep.error (a1c s name u fr til)):=by
 simp only[Desk.a0g];unfold a1c at *
 by_cases h1:Desk.a0S s.ts name u≠0
 ·rw[if_pos h1,if_pos h1]
 ·rw[if_neg h1] at h ⊢;rw[if_neg h1]
  by_cases h3:til<=fr
  ·rw[if_pos h3,if_pos h3]
  ·rw[if_neg h3] at h;omega
theorem c1b(h:a1c s name u fr til=0):Desk.a0g s (.find name u long fr til)=(s,Desk.Rep.num (Desk.a9A s.ts s.es name u long fr til)):=by
 obtain⟨h1,h2⟩:=a1E h;simp only[Desk.a0g];rw[if_neg (by omega),if_neg (by omega)]
theorem c3j(h:DSt w d s r col)(name:ByteArray)(hn:name.size<=1000)(u long fr til:Int)(hl:Desk.a1O (.find name u long fr til)):
  Calls Tryz.prog 101 #[.pointer (some ⟨d,0,none⟩),.agg #[.string name,.int .i64 u,.int .i64 long,.int .i64 fr,.int .i64 til]] w fun e w'=>∃ v,e=.returned v/\a0l w d col (Desk.a0g s (.find name u long fr til)) v w':=by
 obtain⟨hX,hXQ⟩:=a2q (w:=w) (.cells #[.string name,.int .i64 u,.int .i64 long,.int .i64 fr,.int .i64 til] 178);have x0:((w.alloc (.cells #[.string name,.int .i64 u,.int .i64 long,.int .i64 fr,.int .i64 til] 178)).alloc a0f).cell? ⟨w.heap.size,0,none⟩=some (.string name):=by simp[a0f]
 have x1:((w.alloc (.cells #[.string name,.int .i64 u,.int .i64 long,.int .i64 fr,.int .i64 til] 178)).alloc a0f).cell? ⟨w.heap.size,1,none⟩=some (.int .i64 u):=by simp[a0f]
 have x2:((w.alloc (.cells #[.string name,.int .i64 u,.int .i64 long,.int .i64 fr,.int .i64 til] 178)).alloc a0f).cell? ⟨w.heap.size,2,none⟩=some (.int .i64 long):=by simp[a0f]
 have x3:((w.alloc (.cells #[.string name,.int .i64 u,.int .i64 long,.int .i64 fr,.int .i64 til] 178)).alloc a0f).cell? ⟨w.heap.size,3,none⟩=some (.int .i64 fr):=by simp[a0f]
 have x4:((w.alloc (.cells #[.string name,.int .i64 u,.int .i64 long,.int .i64 fr,.int .i64 til] 178)).alloc a0f).cell? ⟨w.heap.size,4,none⟩=some (.int .i64 til):=by simp[a0f]
 have hNX:w.heap.size+1<((w.alloc (.cells #[.string name,.int .i64 u,.int .i64 long,.int .i64 fr,.int .i64 til] 178)).alloc a0f).heap.size:=by simp
 have AK:=a0b (a4e (h.dk.later hX) h.of h.mid name hn u fr til);have HH:=a0b h;have HX:=a0b (zA hX hXQ);clear h hX hXQ
 go_enter Tryz.func101,Tryz.ntmps101
 go_upto_region 1 with fail
 change Code.wp _ _ _ _ ((w.alloc (.cells #[.string name,.int .i64 u,.int .i64 long,.int .i64 fr,.int .i64 til] 178)).alloc a0f);generalize (w.alloc (.cells #[.string name,.int .i64 u,.int .i64 long,.int .i64 fr,.int .i64 til] 178)).alloc a0f=X at *
 go_wp2_with fail
 refine AK.out.mono ?_;rintro e w1 ⟨hp,hb⟩;have BX:Hid (Below w.heap.size w w1):=HX.out.1.trans (hb.mono HX.out.1.size);have QX:Hid (Q7 w1 (w.heap.size+1)):=(Q7.of HX.out.2).later (hb.block _ hNX);rcases hp with ⟨h1,rfl⟩|⟨h1,i,hi,e1,e2,rfl⟩
 ·have HD:=a0b (b2f (long:=long) h1);generalize a1c s name u fr til=er at *;have hb1:(er != 0)=true:=by simpa using h1
  clear h1 AK HX hb x0 x1 x2 x3 x4
  go_wp2_with fail
  refine (a0D er w1).mono ?_;rintro e w2 ⟨rfl,hb2⟩;have hq:=hb2.block (w.heap.size+1) (World.block_lt_of_cell? _ _ QX.out.q0)
  have HF:Hid (a0l w d col (Desk.a0g s (.find name u long fr til)) (a0s er 0 0 (.slice none 0 0) (.slice none 0 0) (.slice none 0 0) (.slice none 0 0)) (a2w w2 (w.heap.size+1) (.int .i64 er) (.int .i64 0) (.int .i64 0) (.slice none 0 0) (.slice none 0 0) (.slice none 0 0) (.slice none 0 0))):=by
   rw[HD.out];exact HH.out.said (BX.out.trans (hb2.mono BX.out.size)) (by omega) er 0 _ _ _ _ _ _ _
  obtain⟨q0,q1,q2,q3,q4,q5,q6,fq⟩:=QX.out.later hq;simp only[a0s]
  go_wp2_with fail
  exact bodyPost_ret (v:=a0s er 0 0 (.slice none 0 0) (.slice none 0 0) (.slice none 0 0) (.slice none 0 0)) (by simp[results,Tryz.results101,go_sem,a0s,q0,q1,q2,q3,q4,q5,q6]) rfl ⟨_,rfl,HF.out⟩
 ·have HD:=a0b (c1b (long:=long) h1);have y1:=(zo (w:=X) (a:=⟨w.heap.size,1,none⟩) (hb.block w.heap.size (by omega))).trans x1;have y2:=(zo (w:=X) (a:=⟨w.heap.size,2,none⟩) (hb.block w.heap.size (by omega))).trans x2;have y3:=(zo (w:=X) (a:=⟨w.heap.size,3,none⟩) (hb.block w.heap.size (by omega))).trans x3;have y4:=(zo (w:=X) (a:=⟨w.heap.size,4,none⟩) (hb.block w.heap.size (by omega))).trans x4;obtain⟨ul,us,Fl,Fs,t1,t2⟩:=(HH.out.dk.later BX.out).th i hi;have cu:=t1.c1
  have hu9:1<=r.tg[i].a0c/\r.tg[i].a0c<=9:=by
   have hin:(r.tg[i].name,r.tg[i].a0c)∈s.ts:=by rw[<- HH.out.of.tsAt hi];exact zg _
   exact HH.out.inv.tu _ hin
  have hw1:IntKind.i64.wrap (r.tg[i].a0c-u)=r.tg[i].a0c-u:=a0i (by have:=hl.1;have:=hl.2.1;omega) (by have:=hl.1;omega);have RC:=a0b (c1k HH.out (wx:=w1.drew) BX.out.drew (u:=u) hi hl.2.2.2.2.1 (a1E h1).2 hl.2.2.2.2.2.2.2 hl.2.2.1 hl.2.2.2.1 (by have:=hl.1;omega));rw[e1] at RC
  have RD:Hid (Calls Tryz.prog 154 #[.pointer (some ⟨r.tg[i].tb,2,none⟩),.agg #[.int .i64 fr,.int .i64 til],.int .i64 long,.int .i64 (r.tg[i].a0c-u)] w1.drew fun e w'=>∃ (x:Int) (bq:Bool),e=.returned (.tuple #[.int .i64 x,.bool bq])/\Desk.a9A s.ts s.es name u long fr til=(if bq then x else -1)/\Below w1.drew.heap.size w1.drew w'):=by
   refine RC.out.mono ?_;rintro e w' ⟨q,rfl,hq,hb2⟩
   cases q with
   |none=>exact⟨0,false,rfl,hq,hb2⟩
   |some x=>exact⟨x,true,rfl,hq,hb2⟩
  have AF:Hid (∀ w2 nn,Below w1.drew.heap.size w1.drew w2->(Desk.a9A s.ts s.es name u long fr til)=nn->Q7 w2 (w.heap.size+1)/\a0l w d col (Desk.a0g s (.find name u long fr til)) (a0s 0 0 nn (.slice none 0 0) (.slice none 0 0) (.slice none 0 0) (.slice none 0 0)) (a2w w2 (w.heap.size+1) (.int .i64 0) (.int .i64 0) (.int .i64 nn) (.slice none 0 0) (.slice none 0 0) (.slice none 0 0) (.slice none 0 0))):=fun w2 nn k2 e=>⟨QX.out.later (k2.block _ (World.block_lt_of_cell? _ _ QX.out.q0)),by rw[HD.out,<- e];exact HH.out.said (BX.out.drew.trans (k2.mono BX.out.size)) (by omega) 0 (Desk.a9A s.ts s.es name u long fr til) _ _ _ _ _ _ _⟩
  clear h1 AK HX hb x0 x1 x2 x3 x4 e1 e2 HD t1 t2 hu9 RC;generalize r.tg[i].a0c=un at *;generalize r.tg[i].tb=tb at *
  go_upto_region 4 with fail
  have AC:Hid (∀ w2,Below w1.drew.heap.size w1.drew w2->w2.cell? ⟨w.heap.size,1,none⟩=some (.int .i64 u)/\w2.cell? ⟨w.heap.size,2,none⟩=some (.int .i64 long)/\w2.cell? ⟨w.heap.size,3,none⟩=some (.int .i64 fr)/\w2.cell? ⟨w.heap.size,4,none⟩=some (.int .i64 til)/\w2.cell? ⟨tb,1,none⟩=some (.int .i64 un)):=fun w2 k=>⟨a0a k y1,a0a k y2,a0a k y3,a0a k y4,a0a k cu⟩
  go_region_held3 (fun w'=>w'.cell? ⟨w.heap.size,1,none⟩=some (.int .i64 u)/\w'.cell? ⟨w.heap.size,2,none⟩=some (.int .i64 long)/\w'.cell? ⟨w.heap.size,3,none⟩=some (.int .i64 fr)/\w'.cell? ⟨w.heap.size,4,none⟩=some (.int .i64 til)/\w'.cell? ⟨tb,1,none⟩=some (.int .i64 un))
   (first
    |exact⟨y1,y2,y3,y4,cu⟩
    |exact AC.out _ hb2)
   (first
    |(go_at_call 154;refine RD.out.mono ?_;rintro e w2 ⟨x,bq,rfl,hq,hb2⟩))
  have HB:=a0b hb2
  cases bq
  all_goals
   have HQ:=a0b hq;clear hq hb2 AC y1 y2 y3 y4 cu
  ·have FF:=a0b (AF.out w2 (-1) HB.out HQ.out);obtain⟨⟨q0,q1,q2,q3,q4,q5,q6,fq⟩,_⟩:=AF.out w2 (-1) HB.out HQ.out;clear AF RD
   go_wp2_with fail
   exact bodyPost_ret (v:=a0s 0 0 (-1) (.slice none 0 0) (.slice none 0 0) (.slice none 0 0) (.slice none 0 0)) (by simp[results,Tryz.results101,go_sem,a0s,q0,q1,q2,q3,q4,q5,q6]) rfl ⟨_,rfl,FF.out.2⟩
  ·have FF:=a0b (AF.out w2 x HB.out HQ.out);obtain⟨⟨q0,q1,q2,q3,q4,q5,q6,fq⟩,_⟩:=AF.out w2 x HB.out HQ.out;clear AF RD
   go_wp2_with fail
   exact bodyPost_ret (v:=a0s 0 0 x (.slice none 0 0) (.slice none 0 0) (.slice none 0 0) (.slice none 0 0)) (by simp[results,Tryz.results101,go_sem,a0s,q0,q1,q2,q3,q4,q5,q6]) rfl ⟨_,rfl,FF.out.2⟩
theorem a7O:∀ (n:Nat)(lo hi:Int),Lev.canon n (fun _=>0) lo hi=.nil
 |0,_,_=>by simp[Lev.canon,Lev.mk,Lev.isNil]
 |n+1,lo,hi=>by
  simp only[Lev.canon];have h1:=a7O n lo (Lev.mid lo hi);have h2:=a7O n (Lev.mid lo hi) hi;rw[h1,h2];simp[Lev.mk,Lev.isNil]
theorem c0x:b1M (fun _=>0)=.nil:=a7O 20 0 1048320
theorem b2H{name:ByteArray}:∀ {es:List Ent},(∀ e∈es,ofB name e=false)->a1C name es=fun _=>0
 |[],_=>by funext p;rfl
 |e :: es,h=>by
  funext p
  have ih:=congrFun (b2H (name:=name) (es:=es) (fun x hx=>h x (List.mem_cons_of_mem _ hx))) p;simp only[a1C,h e List.mem_cons_self,ih];rfl
theorem Of.a0k(h:Of s r){tb:Nat}(hno:∀ t∈r.tg,t.name≠name):Of { s with ts:=s.ts++[(name,u)] } { r with tg:=r.tg++[⟨name,u,tb,fun _=>0,.nil⟩] }:=by
 have hof:∀ e∈s.es,ofB name e=false:=fun e he=>by
  obtain⟨g,hg,rfl⟩:=h.get he;obtain⟨i,hi,e1,e2⟩:=h.tb g hg;have:a0y g.e.a0k name=false:=a3d.2 (fun e3=>hno _ (zg hi) (by rw[e1,e3]));simp[ofB,this]
 refine⟨h.now,h.given,by show (r.tg++[_]).map _=_;rw[List.map_append,h.ts];rfl,h.es,fun i hi=>?_,fun g hg=>?_⟩
 ·have hi':i<r.tg.length+1:=by simpa using hi
  by_cases e:i<r.tg.length
  ·have e2:(r.tg++[(⟨name,u,tb,fun _=>0,.nil⟩:TG)])[i]'(by simpa using hi')=r.tg[i]:=List.getElem_append_left e;show (r.tg++[(⟨name,u,tb,fun _=>0,.nil⟩:TG)])[i].A=a1C (r.tg++[(⟨name,u,tb,fun _=>0,.nil⟩:TG)])[i].name s.es/\a2e (r.tg++[(⟨name,u,tb,fun _=>0,.nil⟩:TG)])[i].name s.es (atE r.eg) (r.tg++[(⟨name,u,tb,fun _=>0,.nil⟩:TG)])[i].T;rw[e2];exact h.th i e
  ·have e3:i=r.tg.length:=by omega
   subst e3;have e2:(r.tg++[(⟨name,u,tb,fun _=>0,.nil⟩:TG)])[r.tg.length]'(by simp)=⟨name,u,tb,fun _=>0,.nil⟩:=by simp
   show (r.tg++[(⟨name,u,tb,fun _=>0,.nil⟩:TG)])[r.tg.length].A=a1C (r.tg++[(⟨name,u,tb,fun _=>0,.nil⟩:TG)])[r.tg.length].name s.es/\a2e (r.tg++[(⟨name,u,tb,fun _=>0,.nil⟩:TG)])[r.tg.length].name s.es (atE r.eg) (r.tg++[(⟨name,u,tb,fun _=>0,.nil⟩:TG)])[r.tg.length].T;rw[e2];refine⟨(b2H hof).symm,List.Pairwise.nil,fun z=>?_⟩;constructor
   ·intro hz;simp[Avl.a0w] at hz
   ·rintro ⟨e,he,h1,_⟩;rw[hof e he] at h1;cases h1
 ·obtain⟨i,hi,e1,e2⟩:=h.tb g hg;have e3:(r.tg++[(⟨name,u,tb,fun _=>0,.nil⟩:TG)])[i]'(by simp;omega)=r.tg[i]:=List.getElem_append_left hi;refine⟨i,(by show i<(r.tg++[_]).length;simp;omega),?_,?_⟩
  ·exact (congrArg TG.name e3).trans e1
  ·exact e2.trans (congrArg TG.tb e3).symm
theorem b5R(h:b2r r.tg name=none):∀ t∈r.tg,t.name≠name:=by
 intro t ht e;rw[a3r] at h
 cases e2:r.tg.find? fun t=>a0y t.name name with
 |none=>exact (List.find?_eq_none.1 e2 t ht) (a4l.2 e)
 |some y=>rw[e2] at h;cases h
theorem DSt.newT(h:DSt w d s r col)(k:Below w.heap.size w w1)(hn:name.size<=1000)(ht:b2r r.tg name=none)(hl:r.tg.length<4)(h7:Q7 w1 (w.heap.size+1)):
  ∃ m,w1.cell? ⟨d,2,none⟩=some (.map (some m))/\∃ w3,(Instr.mapUpdate 137 (.map (some m)) (.string name) (.pointer (some ⟨w1.heap.size,0,none⟩))).run Tryz.prog (w1.alloc (.cells #[.string name,.int .i64 u,.pointer none,.pointer none] 243)).drew=.ok () w3/\Q7 w3 (w.heap.size+1)/\∀ a b c e f g i,a0l w d col ({ s with ts:=s.ts++[(name,u)] },Desk.Rep.num 0) (a0s 0 0 0 (.slice none 0 0) (.slice none 0 0) (.slice none 0 0) (.slice none 0 0)) (a2w w3 (w.heap.size+1) a b c e f g i):=by
 have d1:=h.dk.later k;have kz:Below w1.heap.size w1 (w1.alloc (.cells #[.string name,.int .i64 u,.pointer none,.pointer none] 243)).drew:=((zr _ _).alloc (zq _) _).drew;have d2:=d1.later kz;have hb:=a0p w1 (.cells #[.string name,.int .i64 u,.pointer none,.pointer none] 243);have hbd:(w1.alloc (.cells #[.string name,.int .i64 u,.pointer none,.pointer none] 243)).drew.heap[w1.heap.size]?=some (.cells #[.string name,.int .i64 u,.pointer none,.pointer none] 243 (0,0)):=hb;have hq2:Q7 (w1.alloc (.cells #[.string name,.int .i64 u,.pointer none,.pointer none] 243)).drew (w.heap.size+1):=h7.later (kz.block _ (World.block_lt_of_cell? _ _ h7.q0));have hq0:w.heap.size+1<w1.heap.size:=World.block_lt_of_cell? _ _ h7.q0;obtain⟨m0,_,a0,_⟩:=d1.mt;obtain⟨m,f,a1,a2,a3,a4⟩:=d2.mt
 have hm:m0=m:=by
  have e:=kz.cell (p:=⟨d,2,none⟩) (World.block_lt_of_cell? _ _ a0);rw[a0,a1] at e
  injection e with e;injection e with e;injection e with e
  exact e.symm
 subst hm;refine⟨m0,a0,?_⟩;generalize (w1.alloc (.cells #[.string name,.int .i64 u,.pointer none,.pointer none] 243)).drew=Z at *;obtain⟨w3,hrun,p1,p2⟩:=a3.storeRun c0z Tryz.underlying137 (by unfold maxLen;omega) (b4Z hn) (by unfold b8f;trivial) w1.heap.size
 have hT:TH Z w1.heap.size name u (fun _=>0) .nil none none [] []:=by
  refine⟨?_,?_,?_,?_,fun o=>frozen_of_row _ _ _ _ _ hbd,?_,⟨rfl,rfl⟩,by simp,by simp,by simp⟩
  ·simp only[World.cell?,hbd];rfl
  ·simp only[World.cell?,hbd];rfl
  ·simp only[World.cell?,hbd];rfl
  ·simp only[World.cell?,hbd];rfl
  ·rw[c0x];exact⟨rfl,rfl⟩
 obtain⟨c2,e1,e2,e3⟩:=d2.insTn (t:=⟨name,u,w1.heap.size,fun _=>0,.nil⟩) (B:=w1.heap.size) a1 a2 a4 hT (d1.none (zq _)) (zq _) (b5R ht) p1 p2;have hqc:col (w.heap.size+1)=none:=h.dk.none (by omega);have hmq:w.heap.size+1≠m0:=fun e=>by rw[e,a2] at hqc;cases hqc
 have hql:w.heap.size+1<Z.heap.size:=World.block_lt_of_cell? _ _ hq2.q0;have hb3:w3.heap[w.heap.size+1]?=Z.heap[w.heap.size+1]?:=p2.block _ hql (fun e=>hmq (Option.some.inj e));refine⟨w3,hrun,hq2.later hb3,fun a b c e f g i=>a5O e1 (h.of.a0k (b5R ht)) h.wl h.hl (((Step.below k).trans (Step.below kz)).trans (e2.any k.size)) (by omega) (e3 _ hqc (by show w.heap.size+1≠w1.heap.size;omega)) 0 0 a b c e f g i⟩
theorem c4o(w:World):(zeroValue 198).run Tryz.prog w=.ok (.pointer none) w:=by simp[go_sem]
theorem b9j(h:DSt w d s r col)(name:ByteArray)(hn:name.size<=1000)(u:Int):
  Calls Tryz.prog 91 #[.pointer (some ⟨d,0,none⟩),.agg #[.string name,.int .i64 u]] w fun e w'=>∃ v,e=.returned v/\a0l w d col (Desk.a0g s (.a0k name u)) v w':=by
 obtain⟨hX,hXQ⟩:=a2q (w:=w) (.cells #[.string name,.int .i64 u] 149);have x0:((w.alloc (.cells #[.string name,.int .i64 u] 149)).alloc a0f).cell? ⟨w.heap.size,0,none⟩=some (.string name):=by simp[a0f]
 have x1:((w.alloc (.cells #[.string name,.int .i64 u] 149)).alloc a0f).cell? ⟨w.heap.size,1,none⟩=some (.int .i64 u):=by simp[a0f]
 have hNX:w.heap.size+1<((w.alloc (.cells #[.string name,.int .i64 u] 149)).alloc a0f).heap.size:=by simp
 have HH:=a0b h;have HX:=a0b (zA hX hXQ);clear h hX hXQ
 go_enter Tryz.func91,Tryz.ntmps91
 go_upto_region 1 with fail
 change Code.wp _ _ _ _ ((w.alloc (.cells #[.string name,.int .i64 u] 149)).alloc a0f);generalize (w.alloc (.cells #[.string name,.int .i64 u] 149)).alloc a0f=X at *;have hx:=HH.out.dk.later HX.out.1;obtain⟨m,f,a1,a2,a3,a4⟩:=hx.mt;have hlook:=(a3.block (w':=X.drew) rfl).look c0z Tryz.underlying137 (c4o X.drew) (b4Z hn);have hlen:=(a3.block (w':=X.drew) rfl).len Tryz.underlying137;rw[a4 name] at hlook;have QX:Hid (Q7 X.drew (w.heap.size+1)):=Q7.of HX.out.2;have BX:Hid (Below w.heap.size w X.drew):=HX.out.1.drew;have htl:=HH.out.inv.tl;rw[<- HH.out.of.len] at htl
 cases ht:b2r r.tg name with
 |some b =>
  rw[ht] at hlook;have hlook':(Instr.lookup 137 (.map (some m)) (.string name) false).run Tryz.prog X.drew=.ok (.pointer (some ⟨b,0,none⟩)) X.drew:=hlook
  have HD:Hid (Desk.a0g s (.a0k name u)=(s,Desk.Rep.error 4)):=by
   obtain⟨i,hi,e1,e2,e3⟩:=b2B HH.out.of HH.out.inv.tn ht;have hin:(r.tg[i].name,r.tg[i].a0c)∈s.ts:=by rw[<- HH.out.of.tsAt hi];exact zg _
   have:=(HH.out.inv.tu _ hin).1;simp only[Hid,Desk.a0g];rw[if_pos (by rw[e3];omega)]
  clear hlook a3 a4 ht hx HX hlen
  go_big_region
  clear hlook' x0 x1 a1
  go_wp2_with fail
  refine (a0D 4 X.drew).mono ?_;rintro e w2 ⟨rfl,hb2⟩;have hq:=hb2.block (w.heap.size+1) (World.block_lt_of_cell? _ _ QX.out.q0)
  have HF:Hid (a0l w d col (Desk.a0g s (.a0k name u)) (a0s 4 0 0 (.slice none 0 0) (.slice none 0 0) (.slice none 0 0) (.slice none 0 0)) (a2w w2 (w.heap.size+1) (.int .i64 4) (.int .i64 0) (.int .i64 0) (.slice none 0 0) (.slice none 0 0) (.slice none 0 0) (.slice none 0 0))):=by
   rw[HD.out];exact HH.out.said (BX.out.trans (hb2.mono BX.out.size)) (by omega) 4 0 _ _ _ _ _ _ _
  obtain⟨q0,q1,q2,q3,q4,q5,q6,fq⟩:=QX.out.later hq;simp only[a0s]
  go_wp2_with fail
  exact bodyPost_ret (v:=a0s 4 0 0 (.slice none 0 0) (.slice none 0 0) (.slice none 0 0) (.slice none 0 0)) (by simp[results,Tryz.results91,go_sem,a0s,q0,q1,q2,q3,q4,q5,q6]) rfl ⟨_,rfl,HF.out⟩
 |none =>
  rw[ht] at hlook;have hlook':(Instr.lookup 137 (.map (some m)) (.string name) false).run Tryz.prog X.drew=.ok (.pointer none) X.drew:=hlook;have hun:=b2C HH.out.of ht;have b1:X.drew.cell? ⟨d,2,none⟩=some (.map (some m)):=a1;have z0:X.drew.cell? ⟨w.heap.size,0,none⟩=some (.string name):=x0;have z1:X.drew.cell? ⟨w.heap.size,1,none⟩=some (.int .i64 u):=x1
  by_cases h4:r.tg.length=4
  ·rw[h4] at hlen
   have HD:Hid (Desk.a0g s (.a0k name u)=(s,Desk.Rep.error 5)):=by
    simp only[Hid,Desk.a0g];rw[if_neg (by omega),if_pos (by rw[<- HH.out.of.len];exact h4)]
   clear hlook a3 a4 ht hx HX
   go_big_region
   clear hlook' x0 x1 a1;generalize X.drew=Y at *
   go_wp2_with fail
   refine (a0D 5 Y).mono ?_;rintro e w2 ⟨rfl,hb2⟩;have hq:=hb2.block (w.heap.size+1) (World.block_lt_of_cell? _ _ QX.out.q0)
   have HF:Hid (a0l w d col (Desk.a0g s (.a0k name u)) (a0s 5 0 0 (.slice none 0 0) (.slice none 0 0) (.slice none 0 0) (.slice none 0 0)) (a2w w2 (w.heap.size+1) (.int .i64 5) (.int .i64 0) (.int .i64 0) (.slice none 0 0) (.slice none 0 0) (.slice none 0 0) (.slice none 0 0))):=by
    rw[HD.out];exact HH.out.said (BX.out.trans (hb2.mono BX.out.size)) (by omega) 5 0 _ _ _ _ _ _ _
   obtain⟨q0,q1,q2,q3,q4,q5,q6,fq⟩:=QX.out.later hq;simp only[a0s]
   go_wp2_with fail
   exact bodyPost_ret (v:=a0s 5 0 0 (.slice none 0 0) (.slice none 0 0) (.slice none 0 0) (.slice none 0 0)) (by simp[results,Tryz.results91,go_sem,a0s,q0,q1,q2,q3,q4,q5,q6]) rfl ⟨_,rfl,HF.out⟩
  ·have HD:Hid (Desk.a0g s (.a0k name u)=({ s with ts:=s.ts++[(name,u)] },Desk.Rep.num 0)):=by
    simp only[Hid,Desk.a0g];rw[if_neg (by omega),if_neg (by rw[<- HH.out.of.len];exact h4)]
   have HT:=a0b ht;have hl4:(r.tg.length:Int)<4:=by omega
   clear hlook a3 a4 ht hx HX
   go_big_region
   clear hlook' x0 x1 a1;generalize X.drew=Y at *
   go_wp2_with fail
   refine (b3Q name Y (by omega)).mono ?_;rintro e w1 ⟨rfl,hb⟩;have hNY:w.heap.size+1<Y.heap.size:=World.block_lt_of_cell? _ _ QX.out.q0;obtain⟨m2,g1,w3,hrun,q7,hf⟩:=HH.out.newT (u:=u) (BX.out.trans (hb.mono BX.out.size)) hn HT.out (by omega) (QX.out.later (hb.block _ hNY));have g2:w1.cell? ⟨w.heap.size,1,none⟩=some (.int .i64 u):=a0a hb z1;have HF:Hid (a0l w d col (Desk.a0g s (.a0k name u)) (a0s 0 0 0 (.slice none 0 0) (.slice none 0 0) (.slice none 0 0) (.slice none 0 0)) (a2w w3 (w.heap.size+1) (.int .i64 0) (.int .i64 0) (.int .i64 0) (.slice none 0 0) (.slice none 0 0) (.slice none 0 0) (.slice none 0 0))):=by rw[HD.out];exact hf _ _ _ _ _ _ _
   have ka:Below w1.heap.size w1 (w1.alloc (.cells #[.string name,.int .i64 u,.pointer none,.pointer none] 243)):=(zr _ _).alloc (zq _) _;have g1a:=a0a ka g1;have g2a:=a0a ka g2;clear hf hb hlen z0 z1 b1 ka
   go_upto_region 6 with fail
   go_big_region
   clear hrun g1 g2 g1a g2a;obtain⟨q0,q1,q2,q3,q4,q5,q6,fq⟩:=q7
   go_wp2_with fail
   exact bodyPost_ret (v:=a0s 0 0 0 (.slice none 0 0) (.slice none 0 0) (.slice none 0 0) (.slice none 0 0)) (by simp[results,Tryz.results91,go_sem,a0s,q0,q1,q2,q3,q4,q5,q6]) rfl ⟨_,rfl,HF.out⟩
theorem b3V(h:DSt w d s r col)(name:ByteArray)(hn:name.size<=1000)(u:Int):
  Calls Tryz.prog 64 #[.pointer (some ⟨d,0,none⟩),.iface 149 (.agg #[.string name,.int .i64 u])] w fun e w'=>∃ v,e=.returned v/\a0l w d col (Desk.a0g s (.a0k name u)) v w':=by
 have hX:Below w.heap.size w ((w.alloc a0f).alloc (.cells #[.string name,.int .i64 u] 149)):=((zr _ _).alloc (zq _) _).alloc (by simp) _;have hq:((w.alloc a0f).alloc (.cells #[.string name,.int .i64 u] 149)).heap[w.heap.size]?=some a0f:=(Below.heap_alloc _ _ _ (by simp)).trans (a0p w a0f);have hs:w.heap.size<((w.alloc a0f).alloc (.cells #[.string name,.int .i64 u] 149)).heap.size:=by simp;omega
 have EF:=a0b (b9j (w:=((w.alloc a0f).alloc (.cells #[.string name,.int .i64 u] 149))) ⟨h.dk.later hX,h.of,h.wl,h.hl,h.inv⟩ name hn u);have HX:=a0b (zA hX (zA (Q7.of hq) (zA (h.dk.none (zq _)) hs)));clear h hX hq hs;unfold a0f at EF HX;have yesThing:∀ (xT:TypeId) (v:Value) (w:World),(Instr.typeAssert (.iface 149 v) xT 149 true).run Tryz.prog w=.ok (.tuple #[v,.bool true]) w:=by intro xT v w;simp[Instr.typeAssert,go_sem,Result.andThen,run_underlying Tryz.underlying149]
 go_enter Tryz.func64,Tryz.ntmps64
 go_wp2_with fail
 refine EF.out.mono ?_;rintro e w2 ⟨v,rfl,ep⟩;obtain⟨er,at_,nn,a1,a2,a3,a4,n1,n2,n3,n4,c1,c2,c3,c4,rfl,q7,hf⟩:=ep.up HX.out.1 (zq _) HX.out.2.2.2 HX.out.2.2.1 HX.out.2.1;have HF:=a0b (hf (.int .i64 er) (.int .i64 at_) (.int .i64 nn) (.slice a1 n1 c1) (.slice a2 n2 c2) (.slice a3 n3 c3) (.slice a4 n4 c4));clear ep hf EF yesThing;obtain⟨q0,q1,q2,q3,q4,q5,q6,fq⟩:=q7;simp only[a0s]
 go_wp2_with fail
 exact bodyPost_ret (v:=a0s er at_ nn (.slice a1 n1 c1) (.slice a2 n2 c2) (.slice a3 n3 c3) (.slice a4 n4 c4)) (by simp[results,Tryz.results64,go_sem,a0s,q0,q1,q2,q3,q4,q5,q6]) rfl ⟨_,rfl,HF.out⟩
theorem b5G(h:DSt w d s r col)(name:ByteArray)(hn:name.size<=1000)(u fr til:Int)(hl:Desk.a1O (.enter 1 name u fr til 0)):
  Calls Tryz.prog 64 #[.pointer (some ⟨d,0,none⟩),.iface 154 (.agg #[.string name,.int .i64 u,.int .i64 fr,.int .i64 til])] w fun e w'=>∃ v,e=.returned v/\a0l w d col (Desk.a0g s (.enter 1 name u fr til 0)) v w':=by
 have hX:Below w.heap.size w ((w.alloc a0f).alloc (.cells #[.string name,.int .i64 u,.int .i64 fr,.int .i64 til] 154)):=((zr _ _).alloc (zq _) _).alloc (by simp) _;have hq:((w.alloc a0f).alloc (.cells #[.string name,.int .i64 u,.int .i64 fr,.int .i64 til] 154)).heap[w.heap.size]?=some a0f:=(Below.heap_alloc _ _ _ (by simp)).trans (a0p w a0f);have hs:w.heap.size<((w.alloc a0f).alloc (.cells #[.string name,.int .i64 u,.int .i64 fr,.int .i64 til] 154)).heap.size:=by simp;omega
 have EF:=a0b (c3F (w:=((w.alloc a0f).alloc (.cells #[.string name,.int .i64 u,.int .i64 fr,.int .i64 til] 154))) ⟨h.dk.later hX,h.of,h.wl,h.hl,h.inv⟩ name hn u fr til hl);have HX:=a0b (zA hX (zA (Q7.of hq) (zA (h.dk.none (zq _)) hs)));clear h hX hq hs;unfold a0f at EF HX;have noThing:=d0q 154 (by decide);have yesBook:∀ (xT:TypeId) (v:Value) (w:World),(Instr.typeAssert (.iface 154 v) xT 154 true).run Tryz.prog w=.ok (.tuple #[v,.bool true]) w:=by intro xT v w;simp[Instr.typeAssert,go_sem,Result.andThen,run_underlying Tryz.underlying154]
 go_enter Tryz.func64,Tryz.ntmps64
 go_wp2_with fail
 refine EF.out.mono ?_;rintro e w2 ⟨v,rfl,ep⟩;obtain⟨er,at_,nn,a1,a2,a3,a4,n1,n2,n3,n4,c1,c2,c3,c4,rfl,q7,hf⟩:=ep.up HX.out.1 (zq _) HX.out.2.2.2 HX.out.2.2.1 HX.out.2.1;have HF:=a0b (hf (.int .i64 er) (.int .i64 at_) (.int .i64 nn) (.slice a1 n1 c1) (.slice a2 n2 c2) (.slice a3 n3 c3) (.slice a4 n4 c4));clear ep hf EF noThing yesBook;obtain⟨q0,q1,q2,q3,q4,q5,q6,fq⟩:=q7;simp only[a0s]
 go_wp2_with fail
 exact bodyPost_ret (v:=a0s er at_ nn (.slice a1 n1 c1) (.slice a2 n2 c2) (.slice a3 n3 c3) (.slice a4 n4 c4)) (by simp[results,Tryz.results64,go_sem,a0s,q0,q1,q2,q3,q4,q5,q6]) rfl ⟨_,rfl,HF.out⟩
theorem b2n(h:DSt w d s r col)(id:Int)(hid:0<=id/\id<=9999999):
  Calls Tryz.prog 64 #[.pointer (some ⟨d,0,none⟩),.iface 168 (.agg #[.int .i64 id])] w fun e w'=>∃ v,e=.returned v/\a0l w d col (Desk.a0g s (.cancel id)) v w':=by
 have hX:Below w.heap.size w ((w.alloc a0f).alloc (.cells #[.int .i64 id] 168)):=((zr _ _).alloc (zq _) _).alloc (by simp) _;have hq:((w.alloc a0f).alloc (.cells #[.int .i64 id] 168)).heap[w.heap.size]?=some a0f:=(Below.heap_alloc _ _ _ (by simp)).trans (a0p w a0f);have hs:w.heap.size<((w.alloc a0f).alloc (.cells #[.int .i64 id] 168)).heap.size:=by simp;omega
 have EF:=a0b (b8L (w:=((w.alloc a0f).alloc (.cells #[.int .i64 id] 168))) ⟨h.dk.later hX,h.of,h.wl,h.hl,h.inv⟩ id hid);have HX:=a0b (zA hX (zA (Q7.of hq) (zA (h.dk.none (zq _)) hs)));clear h hX hq hs;unfold a0f at EF HX;have noThing:=d0q 168 (by decide);have noBook:=d2o 168 (by decide);have noHold:=d2F 168 (by decide);have noWait:=d3H 168 (by decide);have noSeries:=d0K 168 (by decide);have noConfirm:=d0y 168 (by decide);have yesCancel:∀ (xT:TypeId) (v:Value) (w:World),(Instr.typeAssert (.iface 168 v) xT 168 true).run Tryz.prog w=.ok (.tuple #[v,.bool true]) w:=by intro xT v w;simp[Instr.typeAssert,go_sem,Result.andThen,run_underlying Tryz.underlying168]
 go_enter Tryz.func64,Tryz.ntmps64
 go_wp2_with fail
 refine EF.out.mono ?_;rintro e w2 ⟨v,rfl,ep⟩;obtain⟨er,at_,nn,a1,a2,a3,a4,n1,n2,n3,n4,c1,c2,c3,c4,rfl,q7,hf⟩:=ep.up HX.out.1 (zq _) HX.out.2.2.2 HX.out.2.2.1 HX.out.2.1;have HF:=a0b (hf (.int .i64 er) (.int .i64 at_) (.int .i64 nn) (.slice a1 n1 c1) (.slice a2 n2 c2) (.slice a3 n3 c3) (.slice a4 n4 c4));clear ep hf EF noThing noBook noHold noWait noSeries noConfirm yesCancel;obtain⟨q0,q1,q2,q3,q4,q5,q6,fq⟩:=q7;simp only[a0s]
 go_wp2_with fail
 exact bodyPost_ret (v:=a0s er at_ nn (.slice a1 n1 c1) (.slice a2 n2 c2) (.slice a3 n3 c3) (.slice a4 n4 c4)) (by simp[results,Tryz.results64,go_sem,a0s,q0,q1,q2,q3,q4,q5,q6]) rfl ⟨_,rfl,HF.out⟩
theorem b5C(h:DSt w d s r col)(name:ByteArray)(hn:name.size<=1000)(fr til:Int)(hl:Desk.a1O (.peak name fr til)):
  Calls Tryz.prog 64 #[.pointer (some ⟨d,0,none⟩),.iface 176 (.agg #[.string name,.int .i64 fr,.int .i64 til])] w fun e w'=>∃ v,e=.returned v/\a0l w d col (Desk.a0g s (.peak name fr til)) v w':=by
 have hX:Below w.heap.size w ((w.alloc a0f).alloc (.cells #[.string name,.int .i64 fr,.int .i64 til] 176)):=((zr _ _).alloc (zq _) _).alloc (by simp) _;have hq:((w.alloc a0f).alloc (.cells #[.string name,.int .i64 fr,.int .i64 til] 176)).heap[w.heap.size]?=some a0f:=(Below.heap_alloc _ _ _ (by simp)).trans (a0p w a0f);have hs:w.heap.size<((w.alloc a0f).alloc (.cells #[.string name,.int .i64 fr,.int .i64 til] 176)).heap.size:=by simp;omega
 have EF:=a0b (c2D (w:=((w.alloc a0f).alloc (.cells #[.string name,.int .i64 fr,.int .i64 til] 176))) ⟨h.dk.later hX,h.of,h.wl,h.hl,h.inv⟩ name hn fr til hl);have HX:=a0b (zA hX (zA (Q7.of hq) (zA (h.dk.none (zq _)) hs)));clear h hX hq hs;unfold a0f at EF HX;have noThing:=d0q 176 (by decide);have noBook:=d2o 176 (by decide);have noHold:=d2F 176 (by decide);have noWait:=d3H 176 (by decide);have noSeries:=d0K 176 (by decide);have noConfirm:=d0y 176 (by decide);have noCancel:=d1Q 176 (by decide);have noList:=d8g 176 (by decide);have noWaiting:=d2E 176 (by decide);have yesPeak:∀ (xT:TypeId) (v:Value) (w:World),(Instr.typeAssert (.iface 176 v) xT 176 true).run Tryz.prog w=.ok (.tuple #[v,.bool true]) w:=by intro xT v w;simp[Instr.typeAssert,go_sem,Result.andThen,run_underlying Tryz.underlying176]
 go_enter Tryz.func64,Tryz.ntmps64
 go_wp2_with fail
 refine EF.out.mono ?_;rintro e w2 ⟨v,rfl,ep⟩;obtain⟨er,at_,nn,a1,a2,a3,a4,n1,n2,n3,n4,c1,c2,c3,c4,rfl,q7,hf⟩:=ep.up HX.out.1 (zq _) HX.out.2.2.2 HX.out.2.2.1 HX.out.2.1;have HF:=a0b (hf (.int .i64 er) (.int .i64 at_) (.int .i64 nn) (.slice a1 n1 c1) (.slice a2 n2 c2) (.slice a3 n3 c3) (.slice a4 n4 c4));clear ep hf EF noThing noBook noHold noWait noSeries noConfirm noCancel noList noWaiting yesPeak;obtain⟨q0,q1,q2,q3,q4,q5,q6,fq⟩:=q7;simp only[a0s]
 go_wp2_with fail
 exact bodyPost_ret (v:=a0s er at_ nn (.slice a1 n1 c1) (.slice a2 n2 c2) (.slice a3 n3 c3) (.slice a4 n4 c4)) (by simp[results,Tryz.results64,go_sem,a0s,q0,q1,q2,q3,q4,q5,q6]) rfl ⟨_,rfl,HF.out⟩
theorem b5F(h:DSt w d s r col)(name:ByteArray)(hn:name.size<=1000)(u long fr til:Int)(hl:Desk.a1O (.find name u long fr til)):
  Calls Tryz.prog 64 #[.pointer (some ⟨d,0,none⟩),.iface 178 (.agg #[.string name,.int .i64 u,.int .i64 long,.int .i64 fr,.int .i64 til])] w fun e w'=>∃ v,e=.returned v/\a0l w d col (Desk.a0g s (.find name u long fr til)) v w':=by
 have hX:Below w.heap.size w ((w.alloc a0f).alloc (.cells #[.string name,.int .i64 u,.int .i64 long,.int .i64 fr,.int .i64 til] 178)):=((zr _ _).alloc (zq _) _).alloc (by simp) _;have hq:((w.alloc a0f).alloc (.cells #[.string name,.int .i64 u,.int .i64 long,.int .i64 fr,.int .i64 til] 178)).heap[w.heap.size]?=some a0f:=(Below.heap_alloc _ _ _ (by simp)).trans (a0p w a0f);have hs:w.heap.size<((w.alloc a0f).alloc (.cells #[.string name,.int .i64 u,.int .i64 long,.int .i64 fr,.int .i64 til] 178)).heap.size:=by simp;omega
 have EF:=a0b (c3j (w:=((w.alloc a0f).alloc (.cells #[.string name,.int .i64 u,.int .i64 long,.int .i64 fr,.int .i64 til] 178))) ⟨h.dk.later hX,h.of,h.wl,h.hl,h.inv⟩ name hn u long fr til hl);have HX:=a0b (zA hX (zA (Q7.of hq) (zA (h.dk.none (zq _)) hs)));clear h hX hq hs;unfold a0f at EF HX;have noThing:=d0q 178 (by decide);have noBook:=d2o 178 (by decide);have noHold:=d2F 178 (by decide);have noWait:=d3H 178 (by decide);have noSeries:=d0K 178 (by decide);have noConfirm:=d0y 178 (by decide);have noCancel:=d1Q 178 (by decide);have noList:=d8g 178 (by decide);have noWaiting:=d2E 178 (by decide);have noPeak:=e3J 178 (by decide);have yesFind:∀ (xT:TypeId) (v:Value) (w:World),(Instr.typeAssert (.iface 178 v) xT 178 true).run Tryz.prog w=.ok (.tuple #[v,.bool true]) w:=by intro xT v w;simp[Instr.typeAssert,go_sem,Result.andThen,run_underlying Tryz.underlying178]
 go_enter Tryz.func64,Tryz.ntmps64
 go_wp2_with fail
 refine EF.out.mono ?_;rintro e w2 ⟨v,rfl,ep⟩;obtain⟨er,at_,nn,a1,a2,a3,a4,n1,n2,n3,n4,c1,c2,c3,c4,rfl,q7,hf⟩:=ep.up HX.out.1 (zq _) HX.out.2.2.2 HX.out.2.2.1 HX.out.2.1;have HF:=a0b (hf (.int .i64 er) (.int .i64 at_) (.int .i64 nn) (.slice a1 n1 c1) (.slice a2 n2 c2) (.slice a3 n3 c3) (.slice a4 n4 c4));clear ep hf EF noThing noBook noHold noWait noSeries noConfirm noCancel noList noWaiting noPeak yesFind;obtain⟨q0,q1,q2,q3,q4,q5,q6,fq⟩:=q7;simp only[a0s]
 go_wp2_with fail
 exact bodyPost_ret (v:=a0s er at_ nn (.slice a1 n1 c1) (.slice a2 n2 c2) (.slice a3 n3 c3) (.slice a4 n4 c4)) (by simp[results,Tryz.results64,go_sem,a0s,q0,q1,q2,q3,q4,q5,q6]) rfl ⟨_,rfl,HF.out⟩
open Go.RowKit Go.Shelf
attribute [local go_sem] Oper.semAt_some
attribute [local go_sem] Oper.semAt_some
attribute [local go_sem] Oper.semAt_some
attribute [local go_sem] Oper.semAt_some
theorem a6Z{W W':World}{row:Option Nat}{t:TypeId}(h:Boxed W B t v)(hg:W.grownBy W' row)(hr:∀ r,row=some r->∃ o:Obj,W.heap[r]?=some o/\o.isCells=false):Boxed W' B t v :=
 h.kept hg (fun e=>by
  obtain⟨o,ho,hc⟩:=hr B e.symm
  rw[show W.heap[B]?=_ from h] at ho;cases ho;cases hc)
theorem c4d:∀ (L:List (Int × Int))(j:Nat)(u:Value),(L.flatMap spV)[j]?=some u->∃ (i:Nat)(h:i<L.length),(j=i*2/\u=.int .i64 L[i].1)\/(j=i*2+1/\u=.int .i64 L[i].2)
 |[],j,u,h=>by simp at h
 |p :: L,0,u,h=>by
  refine⟨0,by simp,.inl ⟨rfl,?_⟩⟩;simp[spV] at h;exact h.symm
 |p :: L,1,u,h=>by
  refine⟨0,by simp,.inr ⟨rfl,?_⟩⟩;simp[spV] at h;exact h.symm
 |p :: L,j+2,u,h=>by
  have h':(L.flatMap spV)[j]?=some u:=by simpa[spV] using h
  obtain⟨i,hi,e⟩:=c4d L j u h';refine⟨i+1,by simp;omega,?_⟩;rcases e with ⟨e1,e2⟩|⟨e1,e2⟩
  ·exact .inl ⟨by omega,by simpa using e2⟩
  ·exact .inr ⟨by omega,by simpa using e2⟩
theorem b0S(L:List (Int × Int)):(L.flatMap spV).length=L.length*2:=by
 induction L with
 |nil=>rfl
 |cons p L ih=>simp[spV,ih];omega
theorem b8A(L:List (Int × Int)):∀ u∈L.flatMap spV,u.oneCell'=true:=by
 intro u hu;obtain⟨p,_,hp⟩:=List.mem_flatMap.1 hu;simp[spV] at hp;rcases hp with rfl|rfl <;> rfl
theorem b4C(w:World)(B cap:Nat)(L:List (Int × Int))(hs:SL w B L)(hL:L.length<=100):
  Calls Tryz.prog 210 #[.slice (some ⟨B,0,none⟩) L.length cap] w fun e w'=>∃ v,e=.returned v/\w'.ownsRow w.heap.size 60 2 v L.length (L.flatMap spV)/\Below w.heap.size w w':=by
 obtain⟨i0,hi0,hz0,hz1,hz2⟩:=info_parts b6Q;have q22:∀ (w:World) (a:Option Addr) (n c n' c':Nat),(binOp .eql 56 (.slice a n c) (.slice none n' c')).run Tryz.prog w=.ok (.bool a.isNone) w:=fun w a n c n' c'=>Lib.run_eql_slice_nil w _ _ a n c n' c' Tryz.underlying56
 have HS:=a0b hs;clear hs
 go_enter Tryz.func210,Tryz.ntmps210
 go_wp2_with (at_builtin;refine wpList_append_own _ rfl _ _ 56 rfl w.heap.size 60 i0 _ 2 16 Tryz.underlying56 hi0 hz0 hz1 hz2 rfl (by decide) _ _ _ rfl (World.ownsRow_made w #[] 0 (zq _) (zN _) rfl) ⟨B,0,none⟩ L.length cap (L.flatMap spV) rfl ?qc1 ?qc2 ?qc3 ?qc4 ?qc5 ?qc6 ?_)
 case qc1=>exact b0S L
 case qc2 =>
  intro j u hj;rw[Addr.add_lit];refine Lib.cell?_alloc_some _ ?_;obtain⟨i,hi,⟨rfl,rfl⟩|⟨rfl,rfl⟩⟩:=c4d L j u hj
  ·have:=(HS.out i hi).1
   simpa using this
  ·have:=(HS.out i hi).2
   simpa using this
 case qc3=>exact b8A L
 case qc4=>unfold maxLen;omega
 case qc5=>omega
 case qc6=>simp
 intro v' w1 hown hgrow hnil;go_wp2;go_ret;refine⟨v',rfl,by simpa using hown,?_⟩;exact ((zr _ w).alloc (zq _) _).grown hgrow (by simp) (by intro k hk;simp[Value.ownBlock] at hk;omega)
end Go.Proofs.YtfigmlfdnickmaaGreatDoor
