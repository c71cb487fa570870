import Derived.Test.YtfigmlfdnickmaaGreatDoorL25
set_option maxRecDepth 100000
set_option maxHeartbeats 8000000
variable{k t:ByteArray}{xs:List (Go.Proofs.YtfigmlfdnickmaaGreatDoor.Desk.Ent × Nat × Nat)}{es:List Go.Proofs.YtfigmlfdnickmaaGreatDoor.Desk.Ent}{F:List Nat}{O Q R d g:Nat}{col:Nat->Option Go.Proofs.YtfigmlfdnickmaaGreatDoor.Col}{r:Go.Proofs.YtfigmlfdnickmaaGreatDoor.Raw}{s:Go.Proofs.YtfigmlfdnickmaaGreatDoor.Desk.St}{u1 u2 u3 u4 v z1 z2 z3 z4:Go.Value}{W X w w':Go.World}
namespace Go.Proofs.YtfigmlfdnickmaaGreatDoor
open Go.RowKit
open Desk (Ent St Rep a0g b7U a2E)
theorem f4a{α:Type}(fs:List Int)(ys:List α)(hl:fs.length=ys.length):∃ zs:List α,zs.length=ys.length/\∀ (i:Nat)(hi:i<ys.length),zs[Rank.e3Z fs i]?=some ys[i]:=by
 have hr:∀ p:Fin ys.length,∃ i,i<ys.length/\Rank.e3Z fs i=p.1:=fun p=>by
  obtain⟨i,h1,h2⟩:=Rank.d5F fs (k:=p.1) (by rw[hl];exact p.2);exact⟨i,by omega,h2⟩
 refine⟨List.ofFn fun p:Fin ys.length=>ys[Classical.choose (hr p)]'(Classical.choose_spec (hr p)).1,by simp,fun i hi=>?_⟩;have hk:Rank.e3Z fs i<ys.length:=by rw[<- hl];exact Rank.e6F fs (by omega)
 rw[List.getElem?_ofFn,dif_pos hk,Option.some.injEq];have h2:=Classical.choose_spec (hr ⟨Rank.e3Z fs i,hk⟩);have e:=Rank.e1x (fs:=fs) (by rw[hl];exact h2.1) (by omega) h2.2;simp only[e]
def g0s(cs:Array Value)(p:Nat)(a b c d e f:Value):Array Value:=(((((cs.setIfInBounds (p*6) a).setIfInBounds (p*6+1) b).setIfInBounds (p*6+2) c).setIfInBounds (p*6+3) d).setIfInBounds (p*6+4) e).setIfInBounds (p*6+5) f
theorem f8r(cs:Array Value)(p:Nat)(a b c d e f:Value)(hp:p*6+5<cs.size)(q j:Nat)(hj:j<6):(g0s cs p a b c d e f)[q*6+j]?=if q=p then [a,b,c,d,e,f][j]? else cs[q*6+j]?:=by
 unfold g0s
 by_cases hq:q=p
 ·subst hq;rw[if_pos rfl];rcases (show j=0\/j=1\/j=2\/j=3\/j=4\/j=5 by omega) with rfl|rfl|rfl|rfl|rfl|rfl
  all_goals
   simp only[Array.getElem?_setIfInBounds,Array.size_setIfInBounds];simp
   try omega
 ·rw[if_neg hq];simp only[Array.getElem?_setIfInBounds,Array.size_setIfInBounds];rw[if_neg (by omega),if_neg (by omega),if_neg (by omega),if_neg (by omega),if_neg (by omega),if_neg (by omega)]
theorem f4b(cs:Array Value)(p:Nat)(a b c d e f:Value):(g0s cs p a b c d e f).size=cs.size:=by simp[g0s]
theorem f4c{cs:Array Value}{t:TypeId}{m:Nat × Nat}(h:W.heap[O]?=some (.cells cs t m))(p:Nat)(a b c d e f:Value):((((((W.setCell ⟨O,p*6,none⟩ a).setCell ⟨O,p*6+1,none⟩ b).setCell ⟨O,p*6+2,none⟩ c).setCell ⟨O,p*6+3,none⟩ d).setCell ⟨O,p*6+4,none⟩ e).setCell ⟨O,p*6+5,none⟩ f).heap[O]?=some (.cells (g0s cs p a b c d e f) t m) :=
 d1X (d1X (d1X (d1X (d1X (d1X h a) b) c) d) e) f
theorem d9z.off{wr wx:World}{ys:List (Ent × Nat × Nat)}(h:d9z w wr v ys)(k:Off [O] wr wx)(hO:wr.heap.size<=O):d9z w wx v ys:=by
 refine⟨a1i h.own k (fun b hb e=>by have:=c7O h.own hb;simp at e;omega),fun y hy=>?_,⟨k.os.trans h.bw.os,k.tape.trans h.bw.tape,k.output.trans h.bw.output,Nat.le_trans h.bw.size k.size,fun b hb=>(k.block b (zL hb h.bw.size) (fun e=>by have:=h.bw.size;simp at e;omega)).trans (h.bw.block b hb)⟩⟩;obtain⟨y1,y2,y3,y4⟩:=h.sl y hy;exact⟨y1.off k (by simp;omega),y2,Nat.lt_of_lt_of_le y3 k.size,y4⟩
theorem e4t(h:DD w d s xs F)(hid:Desk.Ids s.es)(name:ByteArray)(fr til:Int):
  Calls Tryz.prog 235 #[.pointer (some ⟨d,0,none⟩),.string name,.int .i64 fr,.int .i64 til] w fun e w'=>∃ v,e=.returned v/\e2K w v (Desk.a2x name fr til s.es) w':=by
 obtain⟨i0,hi0,hz0,hz1,hz2⟩:=info_parts e2i;have H:=a0b h;have hlen:=h.len;have hel:=h.el;clear h
 go_enter Tryz.func235,Tryz.ntmps235
 go_wp2_with fail
 go_loopw [9,10,11,12] (fun v i _ _ wx=>∃ k:Nat,k<=xs.length/\i=.int .i64 k/\∃ ys,d9z w wx v ys/\ys.length<=k/\(∀ y∈ys,EB y.1)/\ys.map (·.1)=((xs.take k).map (·.1)).filter (b7U name fr til)) (fun _ i _ _ _=>xs.length-(intOf i).toNat)
 case atStart=>exact⟨0,Nat.zero_le _,rfl,[],⟨World.ownsRow_nil _ _ _ _,by simp,Below.refl _ _⟩,by simp,by simp,by simp⟩
 case round =>
  obtain⟨k,hk,rfl,ys,hR,hyl,hye,hys⟩:=hrel;have hD:=H.out.later hR.bw;obtain⟨a,cap,E,hr⟩:=hD.er;have cc:=hr.c;have HR:=a0b (zA hR (zA hys hye))
  by_cases hlt:k<xs.length
  ·obtain rfl:=hr.a k hlt;have r0:=hr.r k hlt;have c0:=r0.c0;have c1:=r0.c1;have c2:=r0.c2;have c3:=r0.c3;have c4:=r0.c4;have c5:=r0.c5;have hi:(k:Int)<(xs.length:Int):=by omega
   have heb:=H.out.en xs[k].1 (H.out.es ▸ List.mem_map.2 ⟨_,List.getElem_mem hlt,rfl⟩);have hX:Below wr.heap.size wr (wr.alloc (f5U xs[k])):=(zr _ _).alloc (zq _) _;have hE:(wr.alloc (f5U xs[k])).heap[wr.heap.size]?=some (f5U xs[k]):=a0p _ _
   have ht:(xs.take (k+1)).map (·.1)=(xs.take k).map (·.1)++[xs[k].1]:=by rw[List.take_succ_eq_append_getElem hlt,List.map_append];rfl
   have HT:=a0b ht;have RX:=a0b (zA (hR.later hX) (zA (r0.sl.later hX) (zA heb hX)));have hsl:0<xs[k].1.a0e.length/\xs[k].1.a0e.length<=1000:=⟨List.length_pos_iff.2 heb.s0,by have:=heb.sl;omega⟩;have FA:=a0b (d8X xs[k] fr til _ RX.out.2.1 (by omega))
   have hst:b7U name fr til xs[k].1=false->ys.map (·.1)=((xs.take (k+1)).map (·.1)).filter (b7U name fr til):=fun h=>by rw[ht,List.filter_append,hys];simp[h]
   have ST:=a0b hst
   go_upto_region 6 with fail
   change Code.wp _ _ _ _ (wr.alloc (f5U xs[k]));have f0:=e0T hE;have f1:=e5p hE;have f2:=e0S hE;have f3:=e0R hE;have f4:=e0P hE;have f5:=e5o hE;have hN:wr.heap.size<(wr.alloc (f5U xs[k])).heap.size:=by simp
   clear hR hys hye hD hr r0 ht heb hX c0 c1 c2 c3 c4 c5 cc hst;generalize wr.alloc (f5U xs[k])=X at *
   go_wp2_with fail
   refine FA.out.mono ?_;rintro e w4 ⟨rfl,hb4⟩;have bb:=(hb4.block wr.heap.size hN).trans hE;have R4:=a0b (zA (RX.out.1.later hb4) (RX.out.2.1.later hb4));have f0:=e0T bb;have f1:=e5p bb;have f2:=e0S bb;have f3:=e0R bb;have f4:=e0P bb;have f5:=e5o bb;have SEL:Hid (b7U name fr til xs[k].1=((xs[k].1.a0k.toList==name.toList) && (xs[k].1.kind != 3) && decide (0<=a2E fr til xs[k].1.a0e))):=rfl;generalize a2E fr til xs[k].1.a0e=ff at *;clear hb4 FA hE
   have hno:b7U name fr til xs[k].1=false->∃ k_1:Nat,k_1<=xs.length/\(Value.int .i64 ((k:Int)+1))=.int .i64 k_1/\∃ ys,d9z w w4 u9 ys/\ys.length<=k_1/\(∀ y∈ys,EB y.1)/\ys.map (·.1)=((xs.take k_1).map (·.1)).filter (b7U name fr til) :=
    fun h=>⟨k+1,by omega,rfl,ys,R4.out.1,by omega,HR.out.2.2,ST.out h⟩
   have NO:=a0b hno;clear hno
   cases q1:(xs[k].1.a0k.toList==name.toList)
   ·have N1:=a0b (NO.out (by rw[SEL.out,q1];rfl))
    go_wp2_with fail
    go_roundw
    case rel=>exact N1.out
    case measure=>simp[intOf];omega
   ·cases q2:(xs[k].1.kind != 3)
    ·have N1:=a0b (NO.out (by rw[SEL.out,q2];simp))
     go_wp2_with fail
     go_roundw
     case rel=>exact N1.out
     case measure=>simp[intOf];omega
    ·by_cases q3:0<=ff
     ·have S1:Hid (b7U name fr til xs[k].1=true):=by show _=_;rw[SEL.out,q1,q2];simpa using q3
      have CP:=a0b (f2w xs[k] w4 R4.out.2 hsl.1 hsl.2)
      go_wp2_with fail
      refine CP.out.mono ?_;rintro e w5 ⟨gq,cq,rfl,a1,a2,a3,hb5⟩;simp only[c7a];have R5:=a0b (R4.out.1.later hb5);have hne:u9.ownBlock≠some gq:=fun e=>by have:=c7O R4.out.1.own e;omega
      have Q5:=a0b (zA a1 (zA (Nat.le_trans R4.out.1.bw.size a2) (zA a3 hne)));have hbz:=R5.out.bw.size;clear hb5 a1 a2 a3 hne f0 f1 f2 f3 f4 f5 CP q1 q2 bb
      go_wp2_with (first|(at_builtin;refine g3I rfl _ _ rfl R5.out.own (xs[k].1,gq,cq) rfl rfl (by omega) hbz ?_;intro g6 c6 w6 ho6 k6 hat6))
      have R6:=a0b (R5.out.snoc Q5.out ho6 k6 hat6);clear ho6 k6 hat6;go_roundw
      case rel =>
       refine⟨k+1,by omega,by go_num,_,R6.out,by simp;omega,fun y hy=>?_,by rw[List.map_append,HR.out.2.1,HT.out,List.filter_append];simp[S1.out]⟩;rcases List.mem_append.1 hy with hy|hy
       ·exact HR.out.2.2 y hy
       ·have:y=(xs[k].1,gq,cq):=by simpa using hy
        subst this;exact RX.out.2.2.1
      case measure=>simp[intOf];omega
     ·have N1:=a0b (NO.out (by rw[SEL.out];simp;omega))
      go_wp2_with fail
      go_roundw
      case rel=>exact N1.out
      case measure=>simp[intOf];omega
  ·have e:xs.take k=xs:=List.take_of_length_le (by omega);have hi:¬ (k:Int)<(xs.length:Int):=by omega
   have hfl:ys.map (·.1)=s.es.filter (b7U name fr til):=by rw[hys,e,H.out.es]
   have hyn:ys.length<=60:=by omega
   obtain⟨ay,cy,rfl⟩:=c9y hR.own;have HYS:=a0b (zA hR (zA hfl hye));clear hR hys hye hD hr e HR
   by_cases hz:ys.length=0
   ·have h0:ys=[]:=List.length_eq_zero_iff.1 hz
    have HF:Hid (e2K w c7N (Desk.a2x name fr til s.es) wr):=by
     refine⟨[],[],?_,fun w2 _=>EV.nil w2,by simp,HYS.out.1.bw⟩;have:=HYS.out.2.1;rw[h0] at this;unfold Desk.a2x;rw[<- this];rfl
    have hz':((ys.length:Int)==0)=true:=by simp[hz]
    go_wp2_with fail
    go_ret;exact⟨_,rfl,HF.out⟩
   ·have hz':((ys.length:Int)==0)=false:=by simp[hz]
    have hn0:0<ys.length:=by omega
    have hmk:=run_make (P:=Tryz.prog) wr 34 58 i0 _ Tryz.underlying34 hi0 hz0 .i64 .i64 ys.length ys.length (by omega) (Int.le_refl _) (by rw[hz2];omega) (by omega);simp only[Int.toNat_natCast] at hmk;obtain⟨cs0,hcs0⟩:∃ cs0,cs0=madeCells (Value.agg #[.int .i64 0,.int .i64 0,.string ⟨#[]⟩,.int .i64 0,.slice none 0 0,.int .i64 0]).cells (ys.length*i0.size):=⟨_,rfl⟩;rw[<- hcs0] at hmk;have hc0:cs0.size=ys.length*6:=by rw[hcs0,size_madeCells,hz1]
    clear hcs0;obtain⟨a',cap',gl,he,_,ha,_⟩:=e1F HYS.out.1.own (fun y hy=>(HYS.out.1.sl y hy).1);simp only[Value.slice.injEq,true_and] at he;obtain⟨rfl,rfl⟩:=he;obtain rfl:=ha (by intro e;simp[e] at hn0)
    have KEY:Hid (∀ wx,Off [wr.heap.size] wr wx->∀ (i:Nat) (hi:i<ys.length),RE wx gl i ys[i].1 ys[i].2.1 ys[i].2.2):=fun wx k=>by
     have R:=HYS.out.1.off k (zq _);obtain⟨a2,c2,g2,he,_,ha2,hr2⟩:=e1F R.own (fun y hy=>(R.sl y hy).1);have:=ha2 (by intro e;simp[e] at hn0);simp only[Value.slice.injEq,this,Option.some.injEq,Addr.mk.injEq] at he;obtain⟨⟨rfl,_⟩,_⟩:=he;exact hr2
    obtain⟨fs,hfs⟩:∃ fs,fs=Desk.d3X fr til (ys.map (·.1)):=⟨_,rfl⟩
    have FS:Hid (fs.length=ys.length/\∀ (i:Nat) (hi:i<ys.length),fs.getD i 0=a2E fr til ys[i].1.a0e):=by
     rw[hfs];refine⟨by simp[Desk.d3X],fun i hi=>?_⟩;rw[Desk.d6H (by simpa using hi)];simp
    have HFS:=a0b hfs;have YE:Hid (∀ (i:Nat) (hi:i<ys.length),ys[i].1.a0e.length<=1000):=fun i hi=>by have:=(HYS.out.2.2 ys[i] (zg hi)).sl;omega
    clear hfs ha
    go_upto_region 12 with fail
    have hO:=a0p wr (.cells cs0 58);have kO:Off [wr.heap.size] wr (wr.alloc (.cells cs0 58)):=(Off.refl _ _).alloc _;have OO:=a0b (zA kO hO);clear hmk kO hO cc;generalize wr.alloc (.cells cs0 58)=Wo at *;have hgO:gl<wr.heap.size:=c7O HYS.out.1.own rfl;obtain⟨O,hOe⟩:∃ O,O=wr.heap.size:=⟨_,rfl⟩;rw[<- hOe] at OO KEY hgO ⊢;have HOE:=a0b hOe;clear hOe;obtain⟨W1,hW1⟩:∃ W1,W1=wr:=⟨_,rfl⟩;subst hW1
    go_wp2_with fail
    go_loopw [14,15,16,17,18] (fun i _ _ _ _ wx=>∃ j:Nat,j<=ys.length/\i=.int .i64 j/\∃ cs,Off [O] W1 wx/\wx.heap[O]?=some (.cells cs 58)/\cs.size=ys.length*6/\∀ (j':Nat) (_:j'<j) (hl:j'<ys.length) (c:Nat),c<6->cs[Rank.e3Z fs j'*6+c]?=(c7a ys[j'])[c]?) (fun i _ _ _ _ _=>ys.length-(intOf i).toNat)
    case atStart=>exact⟨0,Nat.zero_le _,rfl,cs0,OO.out.1,OO.out.2,hc0,fun j' h=>by omega⟩
    case round =>
     obtain⟨j,hj,rfl,cs,hof,hcs,hsz,hfill⟩:=hrel;have HC:=a0b (zA hof (zA hcs (zA hsz hfill)))
     by_cases hjl:j<ys.length
     ·have r0:=KEY.out _ hof j hjl;have c0:=r0.c0;have c1:=r0.c1;have c2:=r0.c2;have c3:=r0.c3;have c4:=r0.c4;have c5:=r0.c5;have hi2:(j:Int)<(ys.length:Int):=by omega
      have FA:=a0b (d8X ys[j] fr til _ r0.sl (by have:=YE.out j hjl;omega));have FJ:=FS.out.2 j hjl;rw[<- FJ] at FA;clear hof hcs hsz hfill r0 FJ
      go_wp2_with fail
      refine FA.out.mono ?_;rintro e w4 ⟨rfl,hb4⟩;have H4:Hid (Off [O] W1 w4/\w4.heap[O]?=some (.cells cs 58)):=⟨HC.out.1.trans (Off.of_below hb4),(hb4.block _ (Array.getElem?_eq_some_iff.1 HC.out.2.1).1).trans HC.out.2.1⟩;obtain⟨fj,hfj⟩:∃ fj,fj=fs.getD j 0:=⟨_,rfl⟩;rw[<- hfj];have HFJ:=a0b hfj;clear hb4 FA c0 c1 c2 c3 c4 c5 hfj
      go_wp2_with fail
      go_loopw [15,17,18] (fun at_ i _ wx=>∃ q:Nat,q<=ys.length/\i=.int .i64 q/\at_=.int .i64 (Rank.upto fs j q:Nat)/\Off [O] W1 wx/\wx.heap[O]?=some (.cells cs 58)) (fun _ i _ _=>ys.length-(intOf i).toNat)
      case atStart=>exact⟨0,Nat.zero_le _,rfl,rfl,H4.out⟩
      case round =>
       obtain⟨q,hq,rfl,rfl,hof,hcs⟩:=hrel;have hup:=Rank.e5Z fs j q
       by_cases hql:q<ys.length
       ·have r0:=KEY.out _ hof q hql;have c0:=r0.c0;have c1:=r0.c1;have c2:=r0.c2;have c3:=r0.c3;have c4:=r0.c4;have c5:=r0.c5;have hi3:(q:Int)<(ys.length:Int):=by omega
        have FA:=a0b (d8X ys[q] fr til _ r0.sl (by have:=YE.out q hql;omega));have FJ:=FS.out.2 q hql;rw[<- FJ] at FA;have UP:Hid (Rank.upto fs j (q+1)=Rank.upto fs j q+if Rank.before fs q j then 1 else 0):=Rank.d3x fs j q;have BF:Hid (Rank.before fs q j=(decide (fs.getD q 0<fj) || (decide (fs.getD q 0=fj) && decide (q<j)))):=by show _=_;rw[HFJ.out];rfl
        have HO:=a0b (zA hof hcs);clear hof hcs r0 FJ
        go_wp2_with fail
        refine FA.out.mono ?_;rintro e w5 ⟨rfl,hb5⟩;have H5:Hid (Off [O] W1 w5/\w5.heap[O]?=some (.cells cs 58)):=⟨HO.out.1.trans (Off.of_below hb5),(hb5.block _ (Array.getElem?_eq_some_iff.1 HO.out.2).1).trans HO.out.2⟩;generalize fs.getD q 0=fq at *;generalize Rank.upto fs j q=uq at *;clear hb5 FA c0 c1 c2 c3 c4 c5;have hyes:Rank.before fs q j=true->∃ q_1:Nat,q_1<=ys.length/\(Value.int .i64 ((q:Int)+1))=.int .i64 q_1/\(Value.int .i64 ((uq:Int)+1))=.int .i64 (Rank.upto fs j q_1:Nat)/\Off [O] W1 w5/\w5.heap[O]?=some (.cells cs 58):=fun h=>⟨q+1,by omega,rfl,by rw[UP.out,h];rfl,H5.out⟩
        have hnot:Rank.before fs q j=false->∃ q_1:Nat,q_1<=ys.length/\(Value.int .i64 ((q:Int)+1))=.int .i64 q_1/\(Value.int .i64 (uq:Int))=.int .i64 (Rank.upto fs j q_1:Nat)/\Off [O] W1 w5/\w5.heap[O]?=some (.cells cs 58):=fun h=>⟨q+1,by omega,rfl,by rw[UP.out,h];rfl,H5.out⟩
        have HY:=a0b hyes;have HN:=a0b hnot;clear hyes hnot
        by_cases a1:fq<fj
        ·have Y1:=a0b (HY.out (by rw[BF.out];simp[a1]))
         go_wp2_with fail
         go_roundw
         case rel=>exact Y1.out
         case measure=>simp[intOf];omega
        ·by_cases a2:fq=fj
         ·have a2':(fq==fj)=true:=by simpa using a2
          by_cases a3:q<j
          ·have Y1:=a0b (HY.out (by rw[BF.out];simp[a2,a3]));have a3':(q:Int)<(j:Int):=by omega
           clear a2
           go_wp2_with fail
           go_roundw
           case rel=>exact Y1.out
           case measure=>simp[intOf];omega
          ·have Y1:=a0b (HN.out (by rw[BF.out];simp[a1,a3]));have a3':¬ (q:Int)<(j:Int):=by omega
           clear a2
           go_wp2_with fail
           go_roundw
           case rel=>exact Y1.out
           case measure=>simp[intOf];omega
         ·have a2':(fq==fj)=false:=by simpa using a2
          have Y1:=a0b (HN.out (by rw[BF.out];simp[a1,a2]));clear a2
          go_wp2_with fail
          go_roundw
          case rel=>exact Y1.out
          case measure=>simp[intOf];omega
       ·have e:Rank.upto fs j q=Rank.e3Z fs j:=by unfold Rank.e3Z;rw[FS.out.1,show q=ys.length by omega]
        have hi3:¬ (q:Int)<(ys.length:Int):=by omega
        have hrk:=Rank.e6F fs (i:=j) (by rw[FS.out.1];exact hjl);rw[FS.out.1] at hrk;rw[e];have r0:=KEY.out _ hof j hjl;have c0:=r0.c0;have c1:=r0.c1;have c2:=r0.c2;have c3:=r0.c3;have c4:=r0.c4;have c5:=r0.c5;have hsz:=HC.out.2.2.1;have hji:(j:Int)<(ys.length:Int):=by omega
        obtain⟨p,hp⟩:∃ p,p=Rank.e3Z fs j:=⟨_,rfl⟩;rw[<- hp] at hrk ⊢;have HP:=a0b hp;have hpi:(p:Int)<(ys.length:Int):=by omega
        have oc:∀ c,c<6->∃ v,wr.cell? ⟨O,p*6+c,none⟩=some v:=fun c hc=>by
         have h9:p*6+c<cs.size:=by omega
         exact⟨cs[p*6+c],by simp[World.cell?,hcs,h9]⟩
        obtain⟨v0,o0⟩:=oc 0 (by omega);obtain⟨v1,o1⟩:=oc 1 (by omega);obtain⟨v2,o2⟩:=oc 2 (by omega);obtain⟨v3,o3⟩:=oc 3 (by omega);obtain⟨v4,o4⟩:=oc 4 (by omega);obtain⟨v5,o5⟩:=oc 5 (by omega);rw[Nat.add_zero] at o0;have of:=f0l hcs;have hgO':gl≠O:=by have:=HOE.out;omega
        have HO:=a0b (zA hof hcs);clear hof hcs r0 hp oc e hsz
        go_wp2_with fail
        go_roundw
        case rel =>
         refine⟨j+1,by omega,by go_num,g0s cs p (.int .i64 ys[j].1.id) (.int .i64 ys[j].1.kind) (.string ys[j].1.a0k) (.int .i64 ys[j].1.a0c) (.slice (some ⟨ys[j].2.1,0,none⟩) ys[j].1.a0e.length ys[j].2.2) (.int .i64 ys[j].1.a0Z),((((((HO.out.1.setCell (.inl (by simp)) _ _).setCell (.inl (by simp)) _ _).setCell (.inl (by simp)) _ _).setCell (.inl (by simp)) _ _).setCell (.inl (by simp)) _ _).setCell (.inl (by simp)) _ _),f4c HO.out.2 p _ _ _ _ _ _,by rw[f4b];exact HC.out.2.2.1,fun j' h1 h2 c h3=>?_⟩;rw[f8r _ _ _ _ _ _ _ _ (by have:=HC.out.2.2.1;omega) _ _ h3]
         by_cases e1:j'=j
         ·subst e1;rw[HP.out,if_pos rfl];rfl
         ·rw[if_neg,HC.out.2.2.2 j' (by omega) h2 c h3];intro e2;rw[HP.out] at e2;exact e1 (Rank.e1x (fs:=fs) (by rw[FS.out.1];exact h2) (by rw[FS.out.1];exact hjl) e2)
        case measure=>simp[intOf];omega
     ·have hi2:¬ (j:Int)<(ys.length:Int):=by omega
      have HF:Hid (e2K w (.slice (some ⟨O,0,none⟩) ys.length ys.length) (Desk.a2x name fr til s.es) wr):=by
       obtain⟨zs,hzl,hzr⟩:=f4a fs ys FS.out.1;have R:=HYS.out.1.off hof (by rw[HOE.out];exact zq _)
       have hmem:∀ z∈zs,z∈ys:=fun z hz=>by
        obtain⟨p,hp,rfl⟩:=List.getElem_of_mem hz;obtain⟨i,hi,e⟩:=Rank.d5F fs (k:=p) (by rw[FS.out.1];omega);have:=hzr i (by rw[<- FS.out.1];exact hi);rw[e,List.getElem?_eq_getElem hp,Option.some.injEq] at this;rw[this];exact zg _
       have hO2:O<wr.heap.size:=(Array.getElem?_eq_some_iff.1 hcs).1;have T:=g0R (w:=w) (w':=wr) (g:=O) (cap:=ys.length) (a:=some ⟨O,0,none⟩) (zs:=zs) (fun _=>rfl) (fun p hp=>?_) (fun _=>⟨by have:=HYS.out.1.bw.size;have:=HOE.out;omega,hO2⟩) (fun z hz=>⟨(R.sl z (hmem z hz)).2.1,(R.sl z (hmem z hz)).2.2.1⟩) R.bw
       ·rw[hzl] at T;have e1:=Desk.b3f (name:=name) (a:=fr) (b:=til) (es:=s.es) (out:=zs.map (·.1)) hid
        obtain⟨p1,p2⟩:=Desk.f3Z (a:=fr) (b:=til) (l:=ys.map (·.1)) (out:=zs.map (·.1)) (by rw[HYS.out.2.1];exact Desk.a5J _ hid) (by simp[hzl]) (fun i hi=>by
         have hi':i<ys.length:=by simpa using hi
         rw[<- HFS.out,List.getElem?_map,hzr i hi'];simp)
        rw[e1 p1 (fun e=>by rw[p2 e,HYS.out.2.1])] at T;exact T
       ·obtain⟨i,hi,e⟩:=Rank.d5F fs (k:=p) (by rw[FS.out.1];omega);have hi':i<ys.length:=by rw[<- FS.out.1];exact hi
        have hz:=hzr i hi';rw[e,List.getElem?_eq_getElem hp,Option.some.injEq] at hz
        have cl:∀ c,c<6->wr.cell? ⟨O,p*6+c,none⟩=(c7a zs[p])[c]?:=fun c hc=>by
         have:=hfill i (by omega) hi' c hc;rw[e] at this;rw[hz,<- this];simp[World.cell?,hcs]
        exact⟨cl 0 (by omega),cl 1 (by omega),cl 2 (by omega),cl 3 (by omega),cl 4 (by omega),cl 5 (by omega),(R.sl zs[p] (hmem _ (zg hp))).1⟩
      clear hof hcs hsz hfill
      go_wp2_with fail
      go_ret;exact⟨_,rfl,HF.out⟩
open Desk (Ent St Rep a0g)
theorem DD.tells{Z:World}(h:DD w d s xs F)(kX:Below w.heap.size w X)(T:e2K X v es Z)(hQ:w.heap.size<=Q)(hQX:Q<X.heap.size)(a b c e f g i:Value):d1S w d F xs (s,{ Rep.num 0 with entries:=es }) (.returned (a0s 0 0 0 v c7N c7N c7N)) (a2w Z Q a b c e f g i):=by
 obtain⟨l,G,hl,hE,hG,kZ⟩:=T;have k7:=a2R Z Q a b c e f g i;have kw:Below w.heap.size w Z:=a0j kX kZ (zq _);have hF:∀ x,x<w.heap.size->x ∉ [Q]:=fun x hx e=>by simp at e;omega
 have hGQ:∀ x∈G,x ∉ [Q]:=fun x hx e=>by have:=(hG x hx).1;simp at e;omega
 refine⟨v,c7N,c7N,c7N,xs,F,G,rfl,fun w2 h2=>⟨⟨l,hE w2 (fun x hx=>(h2 x hx).trans (k7.block x (hG x hx).2 (hGQ x hx))),hl⟩,NV.nil _,NV.nil _⟩,World.ownsRow_nil _ _ _ _,(h.later kw).off k7 (fun x hx=>hF x (h.lt x hx)) (fun x hx=>hF _ (h.rd.sp x hx).2.2),fun _ hx=>.inl hx,(Off.of_below kw).trans' k7 (fun x hx=>.inr (by simp at hx;omega)),fun x hx=>?_,fun x hx=>by simp[Value.ownBlock] at hx,fun x hx=>.inl ⟨x,hx,rfl⟩⟩;have h1:=hG x hx;have h2:=kX.size;exact⟨by omega,Nat.lt_of_lt_of_le h1.2 k7.size,fun e=>by have:=h.lt x e;omega,by simp[Value.ownBlock]⟩
theorem e2K.bw(h:e2K w v es w'):Below w.heap.size w w':=by obtain⟨_,_,_,_,_,k⟩:=h;exact k
theorem e2K.form(h:e2K w v es w'):∃ a cap,v=.slice a es.length cap:=by
 obtain⟨l,G,hl,hE,_⟩:=h;obtain⟨a,c,e⟩:=(hE w' (fun _ _=>rfl)).form;exact⟨a,c,by rw[<- hl,List.length_map];exact e⟩
def g4x(b:Bool)(name:ByteArray)(fr til:Int):Desk.a7U:=if b then .list name fr til else .peak name fr til
def g5f(w:World)(g n:Nat)(b:Bool)(fr til:Int):Prop:=(n=2/\b=true/\fr=0/\til=1048320)\/(3<n/\∃ t u:ByteArray,t.size<=160/\u.size<=160/\w.cell? ⟨g,2,none⟩=some (.string t)/\w.cell? ⟨g,3,none⟩=some (.string u)/\g2T t=fr/\g2T u=til)
theorem d9v(h:DD w d s xs F)(hid:Desk.Ids s.es){b:Bool}{kw name:ByteArray}{fr til:Int}{n c:Nat}(hb:(kw.toList==[108,105,115,116])=b)(hn:1<n)(ht:g5f w g n b fr til)(h0:w.cell? ⟨g,0,none⟩=some (.string kw))(h1:w.cell? ⟨g,1,none⟩=some (.string name)):
  Calls Tryz.prog 177 #[.pointer (some ⟨d,0,none⟩),.slice (some ⟨g,0,none⟩) n c] w (d1S w d F xs (a0g s (g4x b name fr til))):=by
 have P0:=a0b ((KP.nil w).alloc a0f);have H:=a0b h;have i0:(0:Int)<(n:Int):=by omega
 have i1:(1:Int)<(n:Int):=by omega
 have y0:=a0a P0.out.bl h0;have y1:=a0a P0.out.bl h1;have hQ:w.heap.size<(w.alloc a0f).heap.size:=by simp
 have HD:Hid (a0g s (g4x b name fr til)=if Desk.a0h name s.ts=0 then (s,.error 3) else if til<=fr then (s,.error 6) else if b then (s,{ Rep.num 0 with entries:=Desk.a2x name fr til s.es }) else (s,.num (Desk.a1Q name s.es fr til))):=by
  show _=_
  cases b <;> rfl
 clear h
 go_enter Tryz.func177,Tryz.ntmps177
 go_upto_region 1 with fail
 change Code.wp _ _ _ _ (w.alloc a0f);generalize w.alloc a0f=X at *;generalize a0g s (g4x b name fr til)=D at *;rcases ht with ⟨rfl,rfl,rfl,rfl⟩|⟨h3,t,u,zt,zu,ct,cu,rfl,rfl⟩
 ·have D0:=a0b (H.out.later P0.out.bl);have UN:=a0b (D0.out.a0c name);have LS:=a0b (e4t D0.out hid name 0 1048320);have Q1:=a0b (Q7.of (P0.out.kb (w.heap.size,a0f) (by simp)));generalize Desk.a0h name s.ts=un at *
  go_wp2_with fail
  refine UN.out.mono ?_;rintro e w3 ⟨rfl,rfl⟩
  by_cases a1:un=0
  ·have HF:Hid (d1S w d F xs D (.returned (a0s 3 0 0 c7N c7N c7N c7N)) (a2w w3 w.heap.size (.int .i64 3) (.int .i64 0) (.int .i64 0) c7N c7N c7N c7N)):=by
    show d1S w d F xs _ _ _;rw[HD.out,if_pos a1];exact H.out.said P0.out.bl (zq _) 3 0 _ _ _ _ _ _ _
   have a1':(un==0)=true:=by simpa using a1
   obtain⟨q0,q1,q2,q3,q4,q5,q6,fq⟩:=Q1.out;clear a1
   go_wp2_with fail
   exact bodyPost_ret (v:=a0s 3 0 0 c7N c7N c7N c7N) (by simp[results,Tryz.results177,go_sem,a0s,c7N,q0,q1,q2,q3,q4,q5,q6]) rfl HF.out
  ·have a1':(un==0)=false:=by simpa using a1
   have E9:Hid (D=(s,{ Rep.num 0 with entries:=Desk.a2x name 0 1048320 s.es })):=by show _=_;rw[HD.out,if_neg a1];rfl
   clear a1
   go_wp2_with fail
   refine LS.out.mono ?_;rintro e w4 ⟨v,rfl,hT⟩;obtain⟨al,cl,hv⟩:=hT.form
   have HF:Hid (d1S w d F xs D (.returned (a0s 0 0 0 v c7N c7N c7N)) (a2w w4 w.heap.size (.int .i64 0) (.int .i64 0) (.int .i64 0) v c7N c7N c7N)):=by
    show d1S w d F xs _ _ _;rw[E9.out];exact H.out.tells P0.out.bl hT (zq _) hQ _ _ _ _ _ _ _
   obtain⟨q0,q1,q2,q3,q4,q5,q6,fq⟩:=Q1.out.later (hT.bw.block _ hQ);clear hT;subst hv
   go_wp2_with fail
   exact bodyPost_ret (v:=a0s 0 0 0 (.slice al _ cl) c7N c7N c7N) (by simp[results,Tryz.results177,go_sem,a0s,c7N,q0,q1,q2,q3,q4,q5,q6]) rfl HF.out
 ·have i2:(2:Int)<(n:Int):=by omega
  have i3:(3:Int)<(n:Int):=by omega
  have c2:=a0a P0.out.bl ct;have T1:=a0b (fun wx=>d0T t wx zt);have T2:=a0b (fun wx=>d0T u wx zu);generalize g2T t=fr at *;generalize g2T u=til at *
  go_wp2_with fail
  refine (T1.out _).mono ?_;rintro e w1 ⟨rfl,hb1⟩;replace P0:=a0b (P0.out.later hb1);have c3:=a0a P0.out.bl cu;clear hb1 y0 y1 c2 hQ
  go_wp2_with fail
  refine (T2.out _).mono ?_;rintro e w2 ⟨rfl,hb2⟩;replace P0:=a0b (P0.out.later hb2);have y0:=a0a P0.out.bl h0;have y1:=a0a P0.out.bl h1;have hQ:w.heap.size<w2.heap.size:=P0.out.lt (q:=(w.heap.size,a0f)) (by simp);clear hb2 c3 T1 T2 X;have D0:=a0b (H.out.later P0.out.bl);have UN:=a0b (D0.out.a0c name);have LS:=a0b (e4t D0.out hid name fr til);have PK:=a0b (D0.out.peak name fr til);have Q1:=a0b (Q7.of (P0.out.kb (w.heap.size,a0f) (by simp)));generalize Desk.a0h name s.ts=un at *;generalize Desk.a1Q name s.es fr til=pk at *
  go_wp2_with fail
  refine UN.out.mono ?_;rintro e w3 ⟨rfl,rfl⟩
  by_cases a1:un=0
  ·have HF:Hid (d1S w d F xs D (.returned (a0s 3 0 0 c7N c7N c7N c7N)) (a2w w3 w.heap.size (.int .i64 3) (.int .i64 0) (.int .i64 0) c7N c7N c7N c7N)):=by
    show d1S w d F xs _ _ _;rw[HD.out,if_pos a1];exact H.out.said P0.out.bl (zq _) 3 0 _ _ _ _ _ _ _
   have a1':(un==0)=true:=by simpa using a1
   obtain⟨q0,q1,q2,q3,q4,q5,q6,fq⟩:=Q1.out;clear a1
   go_wp2_with fail
   exact bodyPost_ret (v:=a0s 3 0 0 c7N c7N c7N c7N) (by simp[results,Tryz.results177,go_sem,a0s,c7N,q0,q1,q2,q3,q4,q5,q6]) rfl HF.out
  ·have a1':(un==0)=false:=by simpa using a1
   by_cases a2:til<=fr
   ·have HF:Hid (d1S w d F xs D (.returned (a0s 6 0 0 c7N c7N c7N c7N)) (a2w w3 w.heap.size (.int .i64 6) (.int .i64 0) (.int .i64 0) c7N c7N c7N c7N)):=by
     show d1S w d F xs _ _ _;rw[HD.out,if_neg a1,if_pos a2];exact H.out.said P0.out.bl (zq _) 6 0 _ _ _ _ _ _ _
    obtain⟨q0,q1,q2,q3,q4,q5,q6,fq⟩:=Q1.out;clear a1
    go_wp2_with fail
    exact bodyPost_ret (v:=a0s 6 0 0 c7N c7N c7N c7N) (by simp[results,Tryz.results177,go_sem,a0s,c7N,q0,q1,q2,q3,q4,q5,q6]) rfl HF.out
   ·cases b
    ·have E9:Hid (D=(s,.num pk)):=by show _=_;rw[HD.out,if_neg a1,if_neg a2];rfl
     clear a1
     go_wp2_with fail
     refine PK.out.mono ?_;rintro e w4 ⟨rfl,hb4⟩;have B4:=a0b (a0j P0.out.bl hb4 (zq _))
     have HF:Hid (d1S w d F xs D (.returned (a0s 0 0 pk c7N c7N c7N c7N)) (a2w w4 w.heap.size (.int .i64 0) (.int .i64 0) (.int .i64 pk) c7N c7N c7N c7N)):=by
      show d1S w d F xs _ _ _;rw[E9.out];exact H.out.said B4.out (zq _) 0 pk _ _ _ _ _ _ _
     obtain⟨q0,q1,q2,q3,q4,q5,q6,fq⟩:=Q1.out.later (hb4.block _ hQ);clear hb4
     go_wp2_with fail
     exact bodyPost_ret (v:=a0s 0 0 pk c7N c7N c7N c7N) (by simp[results,Tryz.results177,go_sem,a0s,c7N,q0,q1,q2,q3,q4,q5,q6]) rfl HF.out
    ·have E9:Hid (D=(s,{ Rep.num 0 with entries:=Desk.a2x name fr til s.es })):=by show _=_;rw[HD.out,if_neg a1,if_neg a2];rfl
     clear a1
     go_wp2_with fail
     refine LS.out.mono ?_;rintro e w4 ⟨v,rfl,hT⟩;obtain⟨al,cl,hv⟩:=hT.form
     have HF:Hid (d1S w d F xs D (.returned (a0s 0 0 0 v c7N c7N c7N)) (a2w w4 w.heap.size (.int .i64 0) (.int .i64 0) (.int .i64 0) v c7N c7N c7N)):=by
      show d1S w d F xs _ _ _;rw[E9.out];exact H.out.tells P0.out.bl hT (zq _) hQ _ _ _ _ _ _ _
     obtain⟨q0,q1,q2,q3,q4,q5,q6,fq⟩:=Q1.out.later (hT.bw.block _ hQ);clear hT;subst hv
     go_wp2_with fail
     exact bodyPost_ret (v:=a0s 0 0 0 (.slice al _ cl) c7N c7N c7N) (by simp[results,Tryz.results177,go_sem,a0s,c7N,q0,q1,q2,q3,q4,q5,q6]) rfl HF.out
open Desk (Ent St Rep Inv a0g a1q)
def e7g:List ByteArray:=[a3F,a9P,a6m,a5Q,a9a,b5h,b1c,a7l,a7M]
def f9Y(t:ByteArray):Prop:=∃ k∈e7g,isB (Txt.a1v t) 0 false k=true
def g3O(t:ByteArray):(Int × Int) ⊕ Desk.a7U->Prop
 |.inl (er,at_)=>(160<t.size/\er=1/\at_=0)\/(t.size<=160/\∃ m:Nat,g0V t=(none,m)/\er=2/\at_=m)
 |.inr l=>t.size<=160/\∃ q,Full t q/\e2P (Txt.a1v t) q l/\Desk.a1O l
def d4I(s:St):(Int × Int) ⊕ Desk.a7U->St × Rep
 |.inl (er,at_)=>(s,⟨er,at_,0,[],[],[],[]⟩)
 |.inr l=>a1q s l
def g4t:(Int × Int) ⊕ Desk.a7U->Prop
 |.inl _=>True
 |.inr l=>g1X l=true
theorem h2V{ty:TypeId}{a:Array Value}{l:Desk.a7U}(ht:ty=165\/ty=180)(h:LV (.iface ty (.agg a)) l):g1X l=true:=by
 generalize hv:Value.iface ty (.agg a)=v at h;rcases ht with rfl|rfl <;> cases h <;> first|rfl|simp at hv
theorem e9M(h:f9Y t):∃ v st,a2H (Txt.a1v t) v st/\f2K t st/\(st.2=false->a1b (Txt.a1v t).length st.1 st.2=false->∃ q l,Full t q/\e2P (Txt.a1v t) q l/\LV v l/\Desk.a1O l/\g1X l=true):=by
 obtain⟨k,hk,h⟩:=h
 have key:∀ {v st},a2H (Txt.a1v t) v st->g0a t v st->(∀ l,LV v l->g1X l=true)->∃ v st,a2H (Txt.a1v t) v st/\f2K t st/\(st.2=false->a1b (Txt.a1v t).length st.1 st.2=false->∃ q l,Full t q/\e2P (Txt.a1v t) q l/\LV v l/\Desk.a1O l/\g1X l=true):=fun {v st} h1 h2 h3=>⟨v,st,h1,h2.1,fun a b=>by
  obtain⟨q,l,x1,x2,x3,x4⟩:=h2.2 a b
  exact⟨q,l,x1,x2,x3,x4,h3 l x3⟩⟩
 simp only[e7g,List.mem_cons,List.not_mem_nil,or_false] at hk;rcases hk with rfl|rfl|rfl|rfl|rfl|rfl|rfl|rfl|rfl
 ·exact key (.a0k h) (f3k h) (fun l hl=>by cases hl;rfl)
 ·exact key (.book h) (f9J h) (fun l hl=>by cases hl;rfl)
 ·exact key (.cancel h) (f2y h) (fun l hl=>by cases hl;rfl)
 ·cases hm:a1b (Txt.a1v t).length (a0M (Txt.a1v t) [nmB] (1,false)).1 (a0M (Txt.a1v t) [nmB] (1,false)).2
  ·exact key (.list0 h hm) (f5m h hm) (fun l hl=>by cases hl;rfl)
  ·exact key (.list1 h hm) (f5l h hm) (fun l hl=>by cases hl;rfl)
 ·exact key (.peak h) (f8w h) (fun l hl=>by cases hl;rfl)
 ·exact key (.find h) (f9g h) (fun l hl=>by cases hl;rfl)
 ·exact key (.clock h) (f6s h) (fun l hl=>by cases hl;rfl)
 ·obtain⟨pc,ev,acc,fr,mn,mi,ti,un,st,hr⟩:=g2x (Txt.a1v t) (a0M (Txt.a1v t) [nmB,unB] (1,false));exact key (.series h pc ev acc fr mn mi ti un st hr) (g5p h hr) (fun l hl=>h2V (.inl rfl) hl)
 ·obtain⟨pc,ev,acc,fr,mn,mi,ti,un,st,hr⟩:=g2x (Txt.a1v t) (1,false);exact key (.expand h pc ev acc fr mn mi ti un st hr) (g6j h hr) (fun l hl=>h2V (.inr rfl) hl)
theorem f7P(h:f9Y t):∃ o,c4m t o/\g3O t o/\g4t o:=by
 by_cases hs:160<t.size
 ·exact⟨.inl (1,0),⟨by decide,.inl ⟨rfl,rfl⟩,fun e he=>a8v he (.long hs)⟩,.inl ⟨hs,rfl,rfl⟩,trivial⟩
 ·obtain⟨v,st,hl,hn,hd⟩:=e9M h
  by_cases hb:st.2=true\/a1b (Txt.a1v t).length st.1 st.2=true
  ·exact⟨.inl (2,st.1),⟨by decide,.inr ⟨rfl,by omega⟩,fun e he=>a8v he (.bad (by omega) v st hl hb)⟩,.inr ⟨by omega,st.1,hn hb,rfl,rfl⟩,trivial⟩
  ·have h2:st.2=false:=by cases e:st.2 <;> simp_all
   have h3:a1b (Txt.a1v t).length st.1 st.2=false:=by cases e:a1b (Txt.a1v t).length st.1 st.2 <;> simp_all
   obtain⟨q,l,x1,x2,x3,x4,x5⟩:=hd h2 h3;exact⟨.inr l,⟨v,fun e he=>a8v he (.e6J (by omega) v st hl h2 h3),x3,x4⟩,⟨by omega,q,x1,x2,x4⟩,x5⟩
theorem f9k(t:ByteArray):f9T t:=fun X he=>b6h t X he
theorem f6S{rw_:Raw}(h:DSt w d s rw_ col)(ht:Tab w)(h10:10<=w.heap.size){line:Value}{l:Desk.a7U}(hv:LV line l)(hl:Desk.a1O l)(hf:g1X l=true):
  Calls Tryz.prog 64 #[.pointer (some ⟨d,0,none⟩),line] w fun e w'=>∃ v,e=.returned v/\a0l w d col (Desk.a0g s l) v w':=by
 cases hv with
 |a0k name hn u=>exact b3V h name hn u
 |book name hn u fr til=>exact b5G h name hn u fr til hl
 |cancel id=>exact b2n h id hl
 |list name hn wi fr til a b ha hb=>exact b5D h name hn wi fr til a b ha hb
 |peak name hn fr til=>exact b5C h name hn fr til hl
 |find name hn u long fr til=>exact b5F h name hn u long fr til hl
 |clock=>exact b3W h
 |series name hn u r=>exact b2l h ht h10 name hn u r hl
 |expand r=>exact b2m h ht h10 r hl
 |_=>cases hf
theorem g3G{p:Nat}(h:BD w p d s r col)(hR:f9T t){o:(Int × Int) ⊕ Desk.a7U}(ht:c4m t o)(hf:g4t o):
  Calls Tryz.prog 21 #[.pointer (some ⟨p,0,none⟩),.string t] w fun e w'=>∃ v,e=.returned v/\b5M w p d col (d4I s o) v w':=by
 cases o with
 |inl q =>
  obtain⟨er,at_⟩:=q;exact f9O h t er at_ hR ht.1 ht.2.2
 |inr l =>
  obtain⟨line,h1,h2,h3⟩:=ht;exact f6L h t line l hR h1 (Desk.b7f h.ds.inv h3) (Desk.c2j h.ds.inv h3) (Desk.c3u h.ds.inv.mid l) (fun _ ht h10 hds=>f6S hds ht h10 h2 h3 hf)
theorem f2S(hc:∀ (j:Nat)(hj:j<(Txt.a1v t).length),X.cell? ⟨g,j,none⟩=some (.string (Txt.a1v t)[j])){j:Nat}(hj:j<(Txt.a1v t).length):X.cell? ⟨g,j,none⟩=some (.string ((Txt.a1v t).getD j ByteArray.empty)):=by
 rw[hc j hj];simp[List.getD,hj]
theorem Full.head{R:List ByteArray}(h:Full t (k :: R))(hk:d1Z k=true):(Txt.a1v t).getD 0 ByteArray.empty=k :=
 g3s (by rw[f5u,<- g4I k hk];exact e9K (Q:=[]) h.all)
theorem g2e(s:St)(l:Desk.a7U):(a0g s l).2.at_=0:=by
 cases l <;> simp only[a0g] <;> (repeat' split) <;> rfl
theorem f5H(h:Inv s):(s.es.length:Int)<=s.given:=by
 have hi:(s.es.map fun e:Ent=>e.id).Pairwise (· < ·):=h.ids
 have:=b0x _ 1 s.given hi (fun x hx=>by
  obtain⟨e,he,rfl⟩:=List.mem_map.1 hx;have h1:=h.idb e he
  omega)
 have:=h.g0;rw[List.length_map] at *;omega
theorem f9p(h:DD w d s xs F)(hi:Inv s)(hs:t.size<=160){q:List ByteArray}{l:Desk.a7U}(hF:Full t q)(hq:e2P (Txt.a1v t) q l)(hl:Desk.a1O l)(hf:g1X l=true)(X:World)(g c:Nat)(k:Below w.heap.size w X)(hc:∀ (j:Nat)(hj:j<(Txt.a1v t).length),X.cell? ⟨g,j,none⟩=some (.string (Txt.a1v t)[j])):
  Calls Tryz.prog 117 #[.pointer (some ⟨d,0,none⟩),.slice (some ⟨g,0,none⟩) (Txt.a1v t).length c] X (d1S X d F xs (a0g s l)):=by
 have hlen:=hF.len;have hX:=h.later k
 have z:∀ j,((Txt.a1v t).getD j ByteArray.empty).size<=160:=fun j=>by
  by_cases hj:j<(Txt.a1v t).length
  ·simp only[List.getD,hj,List.getElem?_eq_getElem,Option.getD_some];exact Nat.le_trans (b4i t _ (zg hj)) hs
  ·simp[List.getD,hj]
 have at_:∀ Y,Below X.heap.size X Y->∀ j,j<(Txt.a1v t).length->Y.cell? ⟨g,j,none⟩=some (.string ((Txt.a1v t).getD j ByteArray.empty)):=fun Y kY j hj=>a0a kY (f2S hc hj)
 have a0:=fun (hj:0<(Txt.a1v t).length)=>f2S hc hj
 have un:=fun name=>(Desk.a4g hi.tu name).1
 cases hq with
 |a0k =>
  have hd:=hF.head (by decide +kernel);simp only[List.length_cons,List.length_nil] at hlen;refine d0J hX (f:=172) (by omega) (a0 (by omega)) (by rw[hd];simp[e2E,a3F]) (fun Y kY=>?_);exact f0K (hX.later kY) (by omega) (z 2) (un _) (at_ Y kY 1 (by omega)) (at_ Y kY 2 (by omega))
 |book =>
  have hd:=hF.head (by decide +kernel);simp only[List.length_cons,List.length_nil] at hlen;obtain⟨_,u1,u2,f1,f2,t1,t2⟩:=hl;refine d0J hX (f:=173) (by omega) (a0 (by omega)) (by rw[hd];simp[e2E,a9P]) (fun Y kY=>?_);have hk:g3N Y g (Txt.a1v t).length ((Txt.a1v t).getD 0 ByteArray.empty) 1 0:=⟨by rw[hd];decide +kernel,by rw[hd];decide +kernel,.inl ⟨rfl,rfl⟩,by omega⟩;exact f2m (hX.later kY) ⟨hi.g0,hi.g1⟩ (f5H hi) ⟨hi.n0,hi.n1⟩ hk (by omega) (z 2) (z 3) (z 4) ⟨u1,u2⟩ ⟨t1,t2⟩ (at_ Y kY 0 (by omega)) (at_ Y kY 1 (by omega)) (at_ Y kY 2 (by omega)) (at_ Y kY 3 (by omega)) (at_ Y kY 4 (by omega))
 |cancel =>
  have hd:=hF.head (by decide +kernel);simp only[List.length_cons,List.length_nil] at hlen;refine d0J hX (f:=175) (by omega) (a0 (by omega)) (by rw[hd];simp[e2E,a6m]) (fun Y kY=>?_);exact f8E (hX.later kY) hi.ids true (by rw[hd];decide +kernel) (z 1) (by omega) (at_ Y kY 0 (by omega)) (at_ Y kY 1 (by omega))
 |list0 =>
  have hd:=hF.head (by decide +kernel);simp only[List.length_cons,List.length_nil] at hlen;refine d0J hX (f:=177) (by omega) (a0 (by omega)) (by rw[hd];simp[e2E,a5Q]) (fun Y kY=>?_);exact d9v (hX.later kY) hi.ids (b:=true) (by rw[hd];decide +kernel) (by omega) (.inl ⟨by omega,rfl,rfl,rfl⟩) (at_ Y kY 0 (by omega)) (at_ Y kY 1 (by omega))
 |list1 =>
  have hd:=hF.head (by decide +kernel);simp only[List.length_cons,List.length_nil] at hlen;refine d0J hX (f:=177) (by omega) (a0 (by omega)) (by rw[hd];simp[e2E,a5Q]) (fun Y kY=>?_);exact d9v (hX.later kY) hi.ids (b:=true) (by rw[hd];decide +kernel) (by omega) (.inr ⟨by omega,_,_,z 2,z 3,at_ Y kY 2 (by omega),at_ Y kY 3 (by omega),rfl,rfl⟩) (at_ Y kY 0 (by omega)) (at_ Y kY 1 (by omega))
 |peak =>
  have hd:=hF.head (by decide +kernel);simp only[List.length_cons,List.length_nil] at hlen;refine d0J hX (f:=177) (by omega) (a0 (by omega)) (by rw[hd];simp[e2E,a9a]) (fun Y kY=>?_);exact d9v (hX.later kY) hi.ids (b:=false) (by rw[hd];decide +kernel) (by omega) (.inr ⟨by omega,_,_,z 2,z 3,at_ Y kY 2 (by omega),at_ Y kY 3 (by omega),rfl,rfl⟩) (at_ Y kY 0 (by omega)) (at_ Y kY 1 (by omega))
 |find =>
  have hd:=hF.head (by decide +kernel);simp only[List.length_cons,List.length_nil] at hlen;obtain⟨u1,u2,m1,m2,f1,f2,t1,t2⟩:=hl;refine d0J hX (f:=178) (by omega) (a0 (by omega)) (by rw[hd];simp[e2E,b5h]) (fun Y kY=>?_);exact f2f (hX.later kY) (by omega) (z 2) (z 3) (z 4) (z 5) ⟨by omega,u2⟩ ⟨by omega,m2⟩ ⟨f1,f2⟩ (at_ Y kY 1 (by omega)) (at_ Y kY 2 (by omega)) (at_ Y kY 3 (by omega)) (at_ Y kY 4 (by omega)) (at_ Y kY 5 (by omega))
 |clock =>
  have hd:=hF.head (by decide +kernel);simp only[List.length_cons,List.length_nil] at hlen;exact e7i hX (by omega) (by rw[a0 (by omega),hd];rfl)
 |series hr hn =>
  have hF2:=hF;simp only[g4M,List.cons_append] at hF2;have hd:=hF2.head (by decide +kernel);obtain⟨u1,u2,hfi⟩:=hl;refine d0J hX (f:=174) (by omega) (a0 (by omega)) (by rw[hd];simp[e2E,a7l]) (fun Y kY=>?_);exact f9b (hX.later kY) ⟨hi.g0,hi.g1⟩ (f5H hi) (ws:=fun j=>(Txt.a1v t).getD j ByteArray.empty) (fun j hj=>at_ Y kY j hj) z hr (by omega) ⟨u1,u2⟩ hfi
 |expand hr hn =>
  have hF2:=hF;simp only[g4Z,List.cons_append,List.nil_append] at hF2;have hd:=hF2.head (by decide +kernel);exact f6z hX (ws:=fun j=>(Txt.a1v t).getD j ByteArray.empty) (fun j hj=>at_ X (zr _ _) j hj) z hr (by omega) hd hl
 |_=>cases hf
theorem f8p(h:DD w d s xs F)(hi:Inv s){o:(Int × Int) ⊕ Desk.a7U}(ht:g3O t o)(hf:g4t o):
  Calls Tryz.prog 75 #[.pointer (some ⟨d,0,none⟩),.string t] w (DDo w d F xs (d4I s o)):=by
 cases o with
 |inl q =>
  obtain⟨er,at_⟩:=q;rcases ht with ⟨h1,rfl,rfl⟩|⟨h1,m,hm,rfl,rfl⟩
  ·exact e3Y h t (by decide) (fun X=>(d6V t X h1).mono (by rintro e w1 ⟨rfl,rfl⟩;exact⟨rfl,Below.refl _ _⟩))
  ·exact e3Y h t (by decide) (fun X=>(d4Z t X h1).mono (by
    rintro e w1 ⟨hr,hb⟩;rcases hr with ⟨p,a,b,c,d,g,h,hsc,_⟩|⟨m',hsc,rfl⟩
    ·rw[hm] at hsc;cases hsc
    ·rw[hm] at hsc;simp only[Prod.mk.injEq,true_and] at hsc;subst hsc
     exact⟨rfl,hb⟩))
 |inr l =>
  obtain⟨h1,q,h2,h3,h4⟩:=ht;have hne:0<(Txt.a1v t).length:=by rw[h2.len];cases h3 <;> simp[g4M,g4Z]
  exact f1l h t h1 h2.sc hne (q:=a0g s l) (g2e s l) (Desk.c3u hi.mid l) (fun X g c k hc=>f9p h hi h1 h2 h3 h4 hf X g c k hc)
open Desk (Ent Rep)
structure g0I(w:World)(p:Rep)(v1 v2 v3 v4:Value):Prop where
 en:∃ l,EV w v1 l/\l.map (·.1)=p.entries
 da:NV w v2 p.days
 gr:NV w v3 p.granted
 ed:NV w v4 p.ended
theorem g0I.later{p:Rep}{v1 v2 v3 v4:Value}(h:g0I w p v1 v2 v3 v4)(k:Below w.heap.size w w'):g0I w' p v1 v2 v3 v4:=by
 obtain⟨l,h1,h2⟩:=h.en;exact⟨⟨l,h1.later k,h2⟩,h.da.later k,h.gr.later k,h.ed.later k⟩
structure g2A(p:Rep):Prop where
 en:p.entries.length<=1000
 sp:∀ e∈p.entries,e.a0e.length<=1000
 da:p.days.length<=1000000
 gr:p.granted.length<=1000000
 ed:p.ended.length<=1000000
 er:p.err≠0->p.entries=[]/\p.days=[]/\p.granted=[]/\p.ended=[]
def g2J(p:Rep)(v1 v2 v3 v4:Value):Obj:=.cells #[.int .i64 p.err,.int .i64 p.at_,.int .i64 p.n,v1,v2,v3,v4] 40 (0,0)
theorem e1u(w:World)(p:Rep)(hp:g2A p)(u1 u2 u3 u4 v1 v2 v3 v4:Value)(hu:g0I w p u1 u2 u3 u4)(hv:g0I w p v1 v2 v3 v4):
  Calls Tryz.prog 76 #[a0s p.err p.at_ p.n u1 u2 u3 u4,a0s p.err p.at_ p.n v1 v2 v3 v4] w fun e w'=>e=.returned (.bool true)/\Below w.heap.size w w':=by
 have P0:=a0b (((KP.nil w).alloc (g2J p u1 u2 u3 u4)).alloc (g2J p v1 v2 v3 v4));obtain⟨l,el,ml⟩:=hu.en;obtain⟨m,em,mm⟩:=hv.en;obtain⟨a1,c1,e1⟩:=el.form;obtain⟨a2,c2,e2⟩:=hu.da.form;obtain⟨a3,c3,e3⟩:=hu.gr.form;obtain⟨a4,c4,e4⟩:=hu.ed.form;obtain⟨b1,d1,f1⟩:=em.form;obtain⟨b2,d2,f2⟩:=hv.da.form;obtain⟨b3,d3,f3⟩:=hv.gr.form;obtain⟨b4,d4,f4⟩:=hv.ed.form;subst e1 e2 e3 e4 f1 f2 f3 f4;have hll:l.length=p.entries.length:=by rw[<- ml,List.length_map]
 have hml:m.length=p.entries.length:=by rw[<- mm,List.length_map]
 have E1:=a0b (fun W (k:Below w.heap.size w W)=>d9N l m _ _ W (el.later k) (em.later k) (by rw[ml,mm]) (by have:=hp.en;omega) (fun q hq=>hp.sp q.1 (ml ▸ List.mem_map.2 ⟨q,hq,rfl⟩)));have E2:=a0b (fun W (k:Below w.heap.size w W)=>d5e p.days _ _ W (hu.da.later k) (hv.da.later k) hp.da);have E3:=a0b (fun W (k:Below w.heap.size w W)=>d5e p.granted _ _ W (hu.gr.later k) (hv.gr.later k) hp.gr);have E4:=a0b (fun W (k:Below w.heap.size w W)=>d5e p.ended _ _ W (hu.ed.later k) (hv.ed.later k) hp.ed)
 have ER:Hid (p.err≠0->l.length=0/\p.days.length=0/\p.granted.length=0/\p.ended.length=0):=fun h=>by
  obtain⟨h1,h2,h3,h4⟩:=hp.er h;rw[hll,h1,h2,h3,h4];simp
 clear hu hv el em ml mm hll hml hp;simp only[a0s]
 go_enter Tryz.func76,Tryz.ntmps76
 go_upto_region 1 with fail
 rw[World.size_alloc] at P0;change Code.wp _ _ _ _ ((w.alloc (g2J p (.slice a1 l.length c1) (.slice a2 p.days.length c2) (.slice a3 p.granted.length c3) (.slice a4 p.ended.length c4))).alloc (g2J p (.slice b1 m.length d1) (.slice b2 p.days.length d2) (.slice b3 p.granted.length d3) (.slice b4 p.ended.length d4)));generalize (w.alloc (g2J p (.slice a1 l.length c1) (.slice a2 p.days.length c2) (.slice a3 p.granted.length c3) (.slice a4 p.ended.length c4))).alloc (g2J p (.slice b1 m.length d1) (.slice b2 p.days.length d2) (.slice b3 p.granted.length d3) (.slice b4 p.ended.length d4))=X at *
 have CL:Hid (∀ W,Below X.heap.size X W->(W.cell? ⟨w.heap.size,3,none⟩=some (.slice a1 l.length c1)/\W.cell? ⟨w.heap.size,4,none⟩=some (.slice a2 p.days.length c2)/\W.cell? ⟨w.heap.size,5,none⟩=some (.slice a3 p.granted.length c3)/\W.cell? ⟨w.heap.size,6,none⟩=some (.slice a4 p.ended.length c4))/\(W.cell? ⟨w.heap.size+1,3,none⟩=some (.slice b1 m.length d1)/\W.cell? ⟨w.heap.size+1,4,none⟩=some (.slice b2 p.days.length d2)/\W.cell? ⟨w.heap.size+1,5,none⟩=some (.slice b3 p.granted.length d3)/\W.cell? ⟨w.heap.size+1,6,none⟩=some (.slice b4 p.ended.length d4))/\(W.cell? ⟨w.heap.size,0,none⟩=some (.int .i64 p.err)/\W.cell? ⟨w.heap.size,1,none⟩=some (.int .i64 p.at_)/\W.cell? ⟨w.heap.size,2,none⟩=some (.int .i64 p.n))/\W.cell? ⟨w.heap.size+1,0,none⟩=some (.int .i64 p.err)/\W.cell? ⟨w.heap.size+1,1,none⟩=some (.int .i64 p.at_)/\W.cell? ⟨w.heap.size+1,2,none⟩=some (.int .i64 p.n)):=fun W k=>by
  have hb:=P0.out.later k;have hu:=(hb.swap);exact⟨⟨hu.hc 3 rfl,hu.hc 4 rfl,hu.hc 5 rfl,hu.hc 6 rfl⟩,⟨hb.hc 3 rfl,hb.hc 4 rfl,hb.hc 5 rfl,hb.hc 6 rfl⟩,⟨hu.hc 0 rfl,hu.hc 1 rfl,hu.hc 2 rfl⟩,hb.hc 0 rfl,hb.hc 1 rfl,hb.hc 2 rfl⟩
 have BX:=a0b P0.out.bl;clear P0;obtain⟨⟨x3,_,_,_⟩,⟨y3,_,_,_⟩,_⟩:=CL.out X (zr _ _)
 go_wp2_with fail
 refine (E1.out _ BX.out).mono ?_;rintro e w1 ⟨rfl,hb1⟩;obtain⟨⟨_,x4,_,_⟩,⟨_,y4,_,_⟩,_⟩:=CL.out w1 hb1;have B1:=a0b (zA (a0j BX.out hb1 (zq _)) hb1);clear hb1 x3 y3
 go_wp2_with fail
 refine (E2.out _ B1.out.1).mono ?_;rintro e w2 ⟨rfl,hb2⟩;have B2:=a0b (zA (a0j B1.out.1 hb2 (zq _)) (a0j B1.out.2 hb2 (zq _)));obtain⟨⟨_,_,x5,_⟩,⟨_,_,y5,_⟩,_⟩:=CL.out w2 B2.out.2;clear hb2 x4 y4 B1
 go_wp2_with fail
 refine (E3.out _ B2.out.1).mono ?_;rintro e w3 ⟨rfl,hb3⟩;have B3:=a0b (zA (a0j B2.out.1 hb3 (zq _)) (a0j B2.out.2 hb3 (zq _)));obtain⟨⟨_,_,_,x6⟩,⟨_,_,_,y6⟩,_⟩:=CL.out w3 B3.out.2;clear hb3 x5 y5 B2
 go_wp2_with fail
 refine (E4.out _ B3.out.1).mono ?_;rintro e w4 ⟨rfl,hb4⟩;have B4:=a0b (a0j B3.out.1 hb4 (zq _));clear x6 y6;obtain⟨⟨x3,x4,x5,x6⟩,_,⟨x0,x1,x2⟩,y0,y1,y2⟩:=CL.out w4 (a0j B3.out.2 hb4 (zq _));clear hb4 B3 CL E1 E2 E3 E4
 by_cases he:p.err=0
 ·have he':(p.err==0)=true:=by simp[he]
  clear he
  go_wp2_with fail
  all_goals
   go_ret;exact⟨by simp,B4.out⟩
 ·have he':(p.err==0)=false:=by simp[he]
  obtain⟨h1,h2,h3,h4⟩:=ER.out he;clear he
  go_wp2_with fail
  all_goals
   go_ret;exact⟨by simp,B4.out⟩
open Desk (Ent St Rep Inv)
theorem f4k(c n:Int)(w:World)(h1:-9223372036854775808<=c)(h2:c<=9223372036854775807)(hn:1<=n)(hn2:n<=1000000):
  Calls Tryz.prog 74 #[.int .i64 c,.int .i64 n] w fun e w'=>e=.returned (.int .i64 (a2s c n))/\w'=w:=by
 have hz:(n==0)=false:=by simp;omega
 have hb:=a6G (c:=c) hn
 by_cases h:c<0
 ·have k1:IntKind.i64.wrap (c+1)=c+1:=a0G (by omega) (by omega);have k2:IntKind.i64.wrap (-(c+1))=-(c+1):=a0G (by omega) (by omega);have e:(-(c+1)).tmod n=a2s c n:=by unfold a2s;rw[if_pos h];exact Int.tmod_eq_emod_of_nonneg (by omega)
  have k3:IntKind.i64.wrap (a2s c n)=a2s c n:=a0i (by omega) (by omega);generalize a2s c n=v at *
  go_enter Tryz.func74,Tryz.ntmps74
  go_wp2_with fail
  go_ret
  simp_all
 ·have e:c.tmod n=a2s c n:=by unfold a2s;rw[if_neg h];exact Int.tmod_eq_emod_of_nonneg (by omega)
  have k3:IntKind.i64.wrap (a2s c n)=a2s c n:=a0i (by omega) (by omega);generalize a2s c n=v at *
  go_enter Tryz.func74,Tryz.ntmps74
  go_wp2_with fail
  go_ret
  simp_all
theorem f7Z(h:Inv s){o:(Int × Int) ⊕ Desk.a7U}(ht:c4m t o):g2A (d4I s o).2/\(d4I s o).2.entries.length<=60/\(d4I s o).2.days.length<=900000/\(d4I s o).2.granted.length<=900000/\(d4I s o).2.ended.length<=900000:=by
 cases o with
 |inl q=>exact⟨⟨by simp[d4I],by simp[d4I],by simp[d4I],by simp[d4I],by simp[d4I],fun _=>by simp[d4I]⟩,by simp[d4I]⟩
 |inr l =>
  obtain⟨line,_,_,hl⟩:=ht;have k:=Desk.f7Y h hl;have:=k.en;have:=k.gr;have:=k.da;have:=k.ed;show g2A (Desk.a1q s l).2/\(Desk.a1q s l).2.entries.length<=60/\(Desk.a1q s l).2.days.length<=900000/\(Desk.a1q s l).2.granted.length<=900000/\(Desk.a1q s l).2.ended.length<=900000;refine⟨⟨by omega,fun e he=>?_,by omega,by omega,by omega,k.er⟩,by omega,by omega,by omega,by omega⟩;have:=(h.en e (k.es e he)).sl;omega
theorem BD.more{p:Nat}(h:BD w p d s r col)(k:Below w.heap.size w w'):BD w' p d s r col :=
 h.off (G:=[]) (Off.of_below k) (by simp) (h.env.later k)
theorem b5M.later{w1:World}{p:Nat}{q:St × Rep}(h:b5M w p d col q v w1)(k:Below w1.heap.size w1 w'):b5M w p d col q v w':=by
 obtain⟨r',col',bd,st,rp⟩:=h;exact⟨r',col',bd.more k,st.trans (Step.below k),rp.later k⟩
theorem d9C.a0s{K N:List Nat}{l:List (Ent × Value)}{p:Rep}(h:d9C w K N u1 u2 u3 u4 l p.days p.granted p.ended)(hl:l.map (·.1)=p.entries):g0I w p u1 u2 u3 u4 :=
 ⟨⟨l,EV.own h.en (fun p hp=>SV.own (h.sp p hp)),hl⟩,NV.own h.da,NV.own h.gr,NV.own h.ed⟩
theorem g2b(args:Array Value)(w:World):(callFunc 77 args).run Tryz.prog w=.ok (.enter 77 args) w:=by kernel_rfl
section
variable {w0 w w1 w':World}{B n:Nat}{tg:Nat->Tg}{i:Nat}{k:Dk}{D:List Dk}{K:List Nat}{v0 v1 r1 r2 r3:Value}{X1 X2 X3:List KL}
theorem LX.still(h:LX w0 w B n tg D K v0 v1 r1 r2 r3 X1 X2 X3)(hi:D[i]?=some k){q:St × Rep}(P:b5M w k.p k.d k.col q v w1){b:Nat}(hb:tg b≠.no)(hp:tg b≠.pr i):w1.heap[b]?=w.heap[b]?:=by
 obtain⟨r',col',_,st,_⟩:=P;have hl:=h.ds.lt b hb;refine st.blockN hl ?_ hl
 cases hc:k.col b with
 |none=>rfl
 |some c=>exact (hp ((h.ds.at_ i k hi).pc b c hc)).elim
theorem LX.more{m:Nat}(h:LX w0 w B n tg D K v0 v1 r1 r2 r3 X1 X2 X3)(k:n<=m):LX w0 w B m tg D K v0 v1 r1 r2 r3 X1 X2 X3 :=
 ⟨h.ds,h.bk,Nat.le_trans h.len k,h.xo,h.yo,h.tb,h.tk,h.tx,h.ty,h.d3,h.bl,h.lo,h.w10⟩
theorem r7{er at_ n:Int}(h:w.heap[Q]?=some (d9E er at_ n u1 u2 u3 u4)):w.cell? ⟨Q,0,none⟩=some (.int .i64 er)/\w.cell? ⟨Q,1,none⟩=some (.int .i64 at_)/\w.cell? ⟨Q,2,none⟩=some (.int .i64 n)/\w.cell? ⟨Q,3,none⟩=some u1/\w.cell? ⟨Q,4,none⟩=some u2/\w.cell? ⟨Q,5,none⟩=some u3/\w.cell? ⟨Q,6,none⟩=some u4 :=
 ⟨d0h h 0 rfl,d0h h 1 rfl,d0h h 2 rfl,d0h h 3 rfl,d0h h 4 rfl,d0h h 5 rfl,d0h h 6 rfl⟩
structure g4C(w0 w:World)(B n:Nat)(tg:Nat->Tg)(D:List Dk)(K:List Nat)(v0 v1 r1 r2 r3:Value)(X1 X2 X3:List KL)(i:Nat)(k:Dk)(q:St × Rep)(Q:Nat)(u1 u2 u3 u4:Value)(W:World):Prop where
 lx:LX w0 w B n tg D K v0 v1 r1 r2 r3 X1 X2 X3
 hi:D[i]?=some k
 bp:b5M w k.p k.d k.col q (a0s q.2.err q.2.at_ q.2.n u1 u2 u3 u4) W
 hQ:W.heap[Q]?=some (d9E q.2.err q.2.at_ q.2.n u1 u2 u3 u4)
 lo:w.heap.size<=Q
theorem LX.mid1(h:LX w0 w B n tg D K v0 v1 r1 r2 r3 X1 X2 X3)(hi:D[i]?=some k){q:St × Rep}(P:b5M w k.p k.d k.col q (a0s q.2.err q.2.at_ q.2.n u1 u2 u3 u4) w1):g4C w0 w B n tg D K v0 v1 r1 r2 r3 X1 X2 X3 i k q w1.heap.size u1 u2 u3 u4 (w1.alloc (d9E q.2.err q.2.at_ q.2.n u1 u2 u3 u4)) :=
 ⟨h,hi,P.later ((zr _ _).alloc (zq _) _),a0p _ _,by obtain⟨_,_,_,st,_⟩:=P;exact st.size⟩
structure g2L(w0:World)(B n:Nat)(tg:Nat->Tg)(D:List Dk)(K:List Nat)(v0 v1 r1 r2 r3:Value)(X1 X2 X3:List KL)(p:Rep)(Q R:Nat)(u1 u2 u3 u4 z1 z2 z3 z4:Value)(l:List (Ent × Value))(W:World):Prop where
 lx:LX w0 W B n tg D K v0 v1 r1 r2 r3 X1 X2 X3
 rl:d9C W K (bkB B r1 r2 r3) u1 u2 u3 u4 l p.days p.granted p.ended
 hl:l.map (·.1)=p.entries
 no:∀ b∈rlB u1 u2 u3 u4 l,tg b=.no/\w0.heap.size<=b
 rv:g0I W p z1 z2 z3 z4
 hQ:W.heap[Q]?=some (d9E p.err p.at_ p.n u1 u2 u3 u4)
 hR:W.heap[R]?=some (d9E p.err p.at_ p.n z1 z2 z3 z4)
theorem g2L.later{p:Rep}{l:List (Ent × Value)}(h:g2L w0 B n tg D K v0 v1 r1 r2 r3 X1 X2 X3 p Q R u1 u2 u3 u4 z1 z2 z3 z4 l w)(k:Below w.heap.size w w'):g2L w0 B n tg D K v0 v1 r1 r2 r3 X1 X2 X3 p Q R u1 u2 u3 u4 z1 z2 z3 z4 l w' :=
 ⟨h.lx.later k,h.rl.later k,h.hl,h.no,h.rv.later k,(k.block _ (Array.getElem?_eq_some_iff.1 h.hQ).1).trans h.hQ,(k.block _ (Array.getElem?_eq_some_iff.1 h.hR).1).trans h.hR⟩
theorem g4C.mid2{q:St × Rep}{w2:World}(h:g4C w0 w B n tg D K v0 v1 r1 r2 r3 X1 X2 X3 i k q Q u1 u2 u3 u4 W)(P:DDo W k.dd k.F k.xs q (.returned (a0s q.2.err q.2.at_ q.2.n z1 z2 z3 z4)) w2):
  ∃ tg' D' l,g2L w0 B n tg' D' K v0 v1 r1 r2 r3 X1 X2 X3 q.2 Q w2.heap.size u1 u2 u3 u4 z1 z2 z3 z4 l (w2.alloc (d9E q.2.err q.2.at_ q.2.n z1 z2 z3 z4)):=by
 obtain⟨k',tg',lx,a1,a2,a3,a4,l,hv,hl,hr,hn⟩:=h.lx.both h.hi h.bp P;simp only[a0s,Value.agg.injEq,Array.mk.injEq,List.cons.injEq,true_and,and_true] at hv;obtain⟨rfl,rfl,rfl,rfl⟩:=hv;have kW:Below w2.heap.size w2 (w2.alloc (d9E q.2.err q.2.at_ q.2.n z1 z2 z3 z4)):=(zr _ _).alloc (zq _) _;obtain⟨y1,y2,y3,y4,xs',F',he,tl,nv,_,_,kd,_⟩:=P;simp only[Ending.returned.injEq,a0s,Value.agg.injEq,Array.mk.injEq,List.cons.injEq,true_and,and_true] at he;obtain⟨rfl,rfl,rfl,rfl⟩:=he;have hQl:=(Array.getElem?_eq_some_iff.1 h.hQ).1
 have hQ2:w2.heap[Q]?=some (d9E q.2.err q.2.at_ q.2.n u1 u2 u3 u4):=(kd.block Q hQl (fun hx=>by
  have:=h.lx.ds.lt Q (by rw[(h.lx.ds.at_ i k h.hi).df Q hx];simp);have:=h.lo
  omega)).trans h.hQ
 exact⟨tg',_,l,lx.later kW,hr.later kW,hl,hn,(g0I.mk tl.en tl.da nv tl.ed).later kW,(kW.block _ (by have:=kd.size;omega)).trans hQ2,a0p _ _⟩
theorem g2L.a9i{p:Rep}{l:List (Ent × Value)}(h:g2L w0 B n tg D K v0 v1 r1 r2 r3 X1 X2 X3 p Q R u1 u2 u3 u4 z1 z2 z3 z4 l w)(hn:n+64<=900000000)(ok:g2A p)(o6:p.entries.length<=60/\p.days.length<=900000/\p.granted.length<=900000/\p.ended.length<=900000):
  Calls Tryz.prog 77 #[.pointer (some ⟨B,2,none⟩),.agg #[.int .i64 p.err,.int .i64 p.at_,.int .i64 p.n,u1,u2,u3,u4]] w fun x w'=>x=.returned (.tuple #[])/\LW w0 w' B (n+64):=by
 have hll:l.length=p.entries.length:=by rw[<- h.hl,List.length_map]
 have hlen:=h.lx.len;refine (f8V h.lx.bk (by omega) h.rl (by omega) (fun x hx=>?_) o6.2.1 o6.2.2.1 o6.2.2.2 p.err p.at_ p.n).mono ?_
 ·have:x.1∈p.entries:=by rw[<- h.hl];exact List.mem_map.2 ⟨x,hx,rfl⟩
  have:=ok.sp x.1 this;omega
 ·rintro e w4 ⟨rfl,h4⟩;exact⟨rfl,(h.lx.more (Nat.le_add_right n 64)).kept (by omega) h.no h4⟩
theorem e2q(h:LW w0 w B n){a:Int}(h1:-9223372036854775808<=a)(h2:a<=9223372036854775807)(ht:f9Y t)(hn:n+64<=900000000):
  Calls Tryz.prog 54 #[.pointer (some ⟨B,0,none⟩),.int .i64 a,.string t] w fun e w'=>e=.returned (.bool true)/\LW w0 w' B (n+64):=by
 obtain⟨tg,D,K,v0,v1,r1,r2,r3,X1,X2,X3,hx⟩:=h;obtain⟨a0,c0,rfl⟩:=c9y hx.xo;obtain⟨a1,c1,rfl⟩:=c9y hx.yo;obtain⟨x0,x1,_,_,_,_⟩:=hx.bk.cells;have HX:=a0b hx
 by_cases hD:D.length=0
 ·have hD':((D.length:Int)==0)=true:=by simp[hD]
  clear hx ht hD
  go_enter Tryz.func54,Tryz.ntmps54
  go_wp2_with fail
  go_ret;exact⟨rfl,_,_,_,_,_,_,_,_,_,_,_,HX.out.more (Nat.le_add_right n 64)⟩
 ·have hD':((D.length:Int)==0)=false:=by rw[beq_eq_false_iff_ne];omega
  have hd3:=hx.d3;have hb:=a6G (c:=a) (n:=D.length) (by omega);obtain⟨j,hj⟩:∃ j:Nat,a2s a D.length=j:=⟨(a2s a D.length).toNat,by omega⟩;have hjl:j<D.length:=by omega
  have PK:=a0b (f4k a D.length w h1 h2 (by omega) (by omega));rw[hj] at PK;clear hb hj hD h1 h2;have hk:D[j]?=some D[j]:=List.getElem?_eq_getElem hjl;generalize D[j]=k at hk;obtain⟨g0,q0,e0,y0⟩:=e4k hx.xo (k:=j) (u:=.pointer (some ⟨k.p,0,none⟩)) (by rw[List.getElem?_map,hk];rfl);obtain⟨g1,q1,e1,y1⟩:=e4k hx.yo (k:=j) (u:=.pointer (some ⟨k.dd,0,none⟩)) (by rw[List.getElem?_map,hk];rfl);simp only[Value.slice.injEq,true_and] at e0 e1;obtain⟨rfl,rfl⟩:=e0;obtain⟨rfl,rfl⟩:=e1;obtain⟨o,hT,hDc,hf⟩:=f7P ht;have DO:=a0b (g3G (hx.ds.at_ j k hk).bd (f9k _) hT hf);have OK:=a0b (f7Z (hx.ds.at_ j k hk).bd.ds.inv hT);have RD:Hid (∀ W,DD W k.dd k.s k.xs k.F->Calls Tryz.prog 75 #[.pointer (some ⟨k.dd,0,none⟩),.string t] W (DDo W k.dd k.F k.xs (d4I k.s o))):=fun W hW=>f8p hW (hx.ds.at_ j k hk).bd.ds.inv hDc hf
  have BT:=a0b (zA (HX.out.tb B (by simp[bkB])) (HX.out.ty g1 rfl));have HK:=a0b hk;generalize d4I k.s o=q at *;clear hx ht hT hDc hf hk;have hjl':(j:Int)<(D.length:Int):=by omega
  go_enter Tryz.func54,Tryz.ntmps54
  go_upto_region 4 with (first|(go_at_call 74;refine PK.out.mono ?_;rintro e w1 ⟨rfl,hw⟩;rw[hw];clear hw w1))
  go_upto_region 5 with (first|(go_at_call 21;refine DO.out.mono ?_;rintro e w1 ⟨v,rfl,bp⟩;have BP:=a0b bp;obtain⟨r',col',_,_,u1,u2,u3,u4,l0,rfl,hl0,e1,e2,e3,e4,_,_⟩:=bp;obtain⟨b1,d1,rfl⟩:=a0B e1.own;obtain⟨b2,d2,rfl⟩:=e2.slice;obtain⟨b3,d3,rfl⟩:=e3.slice;obtain⟨b4,d4,rfl⟩:=e4.slice;have z1:=(zo (HX.out.still HK.out BP.out (b:=B) (by rw[BT.out.1];simp) (by rw[BT.out.1];simp))).trans x1;have z2:=(zo (HX.out.still HK.out BP.out (b:=g1) (by rw[BT.out.2];simp) (by rw[BT.out.2];simp))).trans y1;clear hl0 e1 e2 e3 e4 x0 x1 y0 y1 DO PK;simp only[a0s]))
  have M1:=a0b (HX.out.mid1 HK.out BP.out);change Code.wp _ _ _ _ (w1.alloc (d9E q.2.err q.2.at_ q.2.n (.slice b1 l0.length d1) (.slice b2 q.2.days.length d2) (.slice b3 q.2.granted.length d3) (.slice b4 q.2.ended.length d4)));have RDW:=a0b (RD.out _ (M1.out.lx.ds.doc M1.out.hi M1.out.bp));have z3:=a0a ((zr _ w1).alloc (zq _) (d9E q.2.err q.2.at_ q.2.n (.slice b1 l0.length d1) (.slice b2 q.2.days.length d2) (.slice b3 q.2.granted.length d3) (.slice b4 q.2.ended.length d4))) z1;have z4:=a0a ((zr _ w1).alloc (zq _) (d9E q.2.err q.2.at_ q.2.n (.slice b1 l0.length d1) (.slice b2 q.2.days.length d2) (.slice b3 q.2.granted.length d3) (.slice b4 q.2.ended.length d4))) z2;clear z1 z2 RD BP BT HX HK;generalize w1.alloc (d9E q.2.err q.2.at_ q.2.n (.slice b1 l0.length d1) (.slice b2 q.2.days.length d2) (.slice b3 q.2.granted.length d3) (.slice b4 q.2.ended.length d4))=W1 at *;generalize w1.heap.size=Q at *
  go_upto_region 6 with (first|(go_at_call 75;refine RDW.out.mono ?_;rintro e w2 dd;have DDH:=a0b dd;obtain⟨y1,y2,y3,y4,xs',F',rfl,tl,nv,_⟩:=dd;obtain⟨le,ev,_⟩:=tl.en;obtain⟨f1,g2,rfl⟩:=ev.form;obtain⟨f2,g3,rfl⟩:=tl.da.form;obtain⟨f3,g4,rfl⟩:=nv.form;obtain⟨f4,g5,rfl⟩:=tl.ed.form;clear tl nv ev z3 z4 RDW;simp only[a0s]))
  change Code.wp _ _ _ _ (w2.alloc (d9E q.2.err q.2.at_ q.2.n (.slice f1 le.length g2) (.slice f2 q.2.days.length g3) (.slice f3 q.2.granted.length g4) (.slice f4 q.2.ended.length g5)));obtain⟨tg',D',l,m2⟩:=M1.out.mid2 DDH.out;have M2:=a0b m2;obtain⟨a0,a1,a2,a3,a4,a5,a6⟩:=r7 m2.hQ;obtain⟨s0,s1,s2,s3,s4,s5,s6⟩:=r7 m2.hR;have SR:=a0b (e1u _ q.2 OK.out.1 _ _ _ _ _ _ _ _ (m2.rl.a0s m2.hl) m2.rv);simp only[a0s] at SR;clear m2 M1 DDH;generalize w2.alloc (d9E q.2.err q.2.at_ q.2.n (.slice f1 le.length g2) (.slice f2 q.2.days.length g3) (.slice f3 q.2.granted.length g4) (.slice f4 q.2.ended.length g5))=W2 at *;generalize w2.heap.size=R at *
  go_upto_region 7 with (first|(go_at_call 76;refine SR.out.mono ?_;rintro e w3 ⟨rfl,hb3⟩;have M3:=a0b (M2.out.later hb3);clear hb3 a0 a1 a2 a3 a4 a5 a6 s0 s1 s2 s3 s4 s5 s6 SR))
  obtain⟨a0,a1,a2,a3,a4,a5,a6⟩:=r7 M3.out.hQ;have KP:=a0b ((M3.out.later (a0q w3)).a9i hn OK.out.1 OK.out.2);clear M2 M3 OK
  go_region_law (first
   |(refine a2k (by rfl) 77 _ _ (by rfl) _ (by simp[Act.eval]) (g2b _ _) KP.out ?_;rintro e w4 ⟨rfl,h4⟩;refine⟨_,rfl,?_⟩;have H4:=a0b h4;clear h4))
  all_goals
   go_wp2_with fail
   go_ret;exact⟨rfl,H4.out⟩
end
namespace Txt
theorem e9C:∀ (l:List UInt8)(x:List (List UInt8) × List UInt8),∃ t,c1V (l.foldl b1m x)=x.1++t
 |[],x=>by
  unfold c1V
  by_cases h:x.2=[]
  ·exact⟨[],by simp[h]⟩
  ·exact⟨[x.2],by simp[h]⟩
 |c :: l,x=>by
  obtain⟨t,ht⟩:=e9C l (b1m x c);rw[List.foldl_cons,ht];unfold b1m
  by_cases h:c=32
  ·rw[if_pos h]
   by_cases h2:x.2=[]
   ·exact⟨t,by simp[h2]⟩
   ·exact⟨[x.2]++t,by simp[h2]⟩
  ·exact⟨t,by rw[if_neg h]⟩
theorem f5E{s:ByteArray}(hk:a3V k.data.toList=true)(h:s.data.toList=k.data.toList\/∃ r,s.data.toList=k.data.toList++32 :: r):∃ R,a1v s=k :: R:=by
 obtain⟨h1,h2⟩:=a8C.1 hk
 have key:∃ t,b2u s.data.toList=k.data.toList :: t:=by
  unfold b2u c4p;rcases h with e|⟨r,e⟩
  ·rw[e,b3A h2];exact⟨[],by simp[c1V,h1]⟩
  ·rw[e,List.foldl_append,b3A h2,List.foldl_cons,b7S];obtain⟨t,ht⟩:=e9C r (c1V ([],[]++k.data.toList),[]);rw[ht];exact⟨t,by simp[c1V,h1]⟩
 obtain⟨t,ht⟩:=key;rw[<- b7B] at ht
 cases hw:a1v s with
 |nil=>rw[hw] at ht;simp at ht
 |cons a R =>
  rw[hw] at ht;simp only[List.map_cons,List.cons.injEq] at ht;exact⟨R,by rw[c1t ht.1]⟩
end Txt
theorem e9e(p ws:List ByteArray):∀ n:Nat,(e0k p ws (n+1)).data.toList=(wrS (p.getD 0 ⟨#[]⟩) (ws.getD 0 ⟨#[]⟩)).data.toList\/∃ r,(e0k p ws (n+1)).data.toList=(wrS (p.getD 0 ⟨#[]⟩) (ws.getD 0 ⟨#[]⟩)).data.toList++32 :: r
 |0=>by
  left;simp[e0k]
 |n+1=>by
  right;rw[e0k,if_pos (by omega),Txt.a1X,Txt.a1X];rcases e9e p ws n with e|⟨r,e⟩
  ·rw[e];exact⟨_,by rw[List.append_assoc];rfl⟩
  ·rw[e];exact⟨r++(32 :: (wrS (p.getD (n+1) ⟨#[]⟩) (ws.getD (n+1) ⟨#[]⟩)).data.toList),by simp⟩
theorem f9j(hk:k∈e7g):Txt.a3V k.data.toList=true/\wrS k k=k:=by
 simp only[e7g,List.mem_cons,List.not_mem_nil,or_false] at hk;rcases hk with rfl|rfl|rfl|rfl|rfl|rfl|rfl|rfl|rfl <;> exact⟨by decide +kernel,by decide +kernel⟩
theorem f9q{q:List ByteArray}{l:Desk.a7U}(hF:Full t q)(hq:e2P (Txt.a1v t) q l)(hf:g1X l=true):∃ k∈e7g,(Txt.a1v t).getD 0 ByteArray.empty=k/\∃ R,q=k :: R:=by
 cases hq with
 |a0k=>exact⟨a3F,by simp[e7g],hF.head (by decide +kernel),_,rfl⟩
 |book=>exact⟨a9P,by simp[e7g],hF.head (by decide +kernel),_,rfl⟩
 |cancel=>exact⟨a6m,by simp[e7g],hF.head (by decide +kernel),_,rfl⟩
 |list0=>exact⟨a5Q,by simp[e7g],hF.head (by decide +kernel),_,rfl⟩
 |list1=>exact⟨a5Q,by simp[e7g],hF.head (by decide +kernel),_,rfl⟩
 |peak=>exact⟨a9a,by simp[e7g],hF.head (by decide +kernel),_,rfl⟩
 |find=>exact⟨b5h,by simp[e7g],hF.head (by decide +kernel),_,rfl⟩
 |clock=>exact⟨b1c,by simp[e7g],hF.head (by decide +kernel),_,rfl⟩
 |series hr hn=>exact⟨a7l,by simp[e7g],Full.head (R:=c8r :: c8Z :: _) hF (by decide +kernel),_,rfl⟩
 |expand hr hn=>exact⟨a7M,by simp[e7g],Full.head (R:=_) hF (by decide +kernel),_,rfl⟩
 |_=>cases hf
theorem f5R(h:f9Y t){p:List ByteArray}(hp:g0V t=(some p,0)):f9Y (e0k p (Txt.a1v t) (Txt.a1v t).length):=by
 obtain⟨v,st,_,hn,hd⟩:=e9M h
 by_cases hb:st.2=true\/a1b (Txt.a1v t).length st.1 st.2=true
 ·have:=hn hb;rw[hp] at this
  cases this
 ·have h2:st.2=false:=by cases e:st.2 <;> simp_all
  have h3:a1b (Txt.a1v t).length st.1 st.2=false:=by cases e:a1b (Txt.a1v t).length st.1 st.2 <;> simp_all
  obtain⟨q,l,x1,x2,_,_,x5⟩:=hd h2 h3;have e:=x1.sc;rw[hp] at e;simp only[Prod.mk.injEq,Option.some.injEq,and_true] at e;subst e;obtain⟨k,hk,hw,R,rfl⟩:=f9q x1 x2 x5;obtain⟨w1,w2⟩:=f9j hk;have hl:=x1.len;simp only[List.length_cons] at hl;rw[hl];have ho:=e9e (k :: R) (Txt.a1v t) R.length
  have e0:wrS ((k :: R).getD 0 ⟨#[]⟩) ((Txt.a1v t).getD 0 ⟨#[]⟩)=k:=by
   have:(Txt.a1v t).getD 0 ⟨#[]⟩=k:=hw;rw[this];exact w2
  rw[e0] at ho;obtain⟨T,hT⟩:=Txt.f5E w1 ho;exact⟨k,hk,by rw[hT];simp[isB,a1b]⟩
end Go.Proofs.YtfigmlfdnickmaaGreatDoor
