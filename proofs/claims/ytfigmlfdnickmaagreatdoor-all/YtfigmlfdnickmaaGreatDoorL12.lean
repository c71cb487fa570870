import Derived.Test.YtfigmlfdnickmaaGreatDoorL11
import Derived.BigQuiet
import Derived.Deep.CutBlock
set_option maxRecDepth 100000
set_option maxHeartbeats 8000000
variable{held tm:Bool}{ft kw name tt ut:ByteArray}{fr id pc tq:Int}{ts:List (ByteArray × Int)}{es:List Go.Proofs.YtfigmlfdnickmaaGreatDoor.Desk.Ent}{acc l:List Int}{F G:List Nat}{O Q b c d g k n:Nat}{spare:Nat->Bool}{ws:Nat->ByteArray}{s:Go.Proofs.YtfigmlfdnickmaaGreatDoor.Desk.St}{v:Go.Value}{W Z w w' wx:Go.World}
namespace Go.Proofs.YtfigmlfdnickmaaGreatDoor.uptoLaw
open Go.ChangeShapes Go.WideShapes Go.ChangeAt Go.RowKit
theorem f9G{H:Type}(d:DataW H):1<=Rows.uptoBulk d:=by
 cases d with
 |lit l=>cases l <;> simp[Rows.uptoBulk]
 |_=>simp[Rows.uptoBulk]
theorem f0k{H:Type}:∀ l:List (DataW H),l.length<=Rows.uptoBulkAll l
 |[]=>zN _
 |d :: r=>by
  have:=f0k r;have:=f9G d;simp only[Rows.uptoBulkAll,List.length_cons];omega
theorem f0h{H:Type}{d:DataW H}:∀ {l:List (DataW H)},d∈l->Rows.uptoBulk d<=Rows.uptoBulkAll l
 |a :: r,h=>by
  simp only[Rows.uptoBulkAll];rcases List.mem_cons.1 h with rfl|h
  ·omega
  ·have:=f0h h;omega
theorem g2Z{H:Type}{enc:TypeId × Value->H}{base:Nat}{off:Nat}{cs:List Value}{x:DataW H × List MemPlace}(k:Nat)
  (hc:W.cells? base (Addr.add ⟨b,off,none⟩ (k*6)) 6=some cs) (h:DataW.trod enc Tryz.prog W base spare held n 89 cs=some x):∃ o:OpX,g2D W b (off+k*6) o/\-9223372036854775808<=o.a/\o.a<=9223372036854775807/\-9223372036854775808<=o.d/\o.d<=9223372036854775807/\o.s.size<=Rows.uptoBulk x.1:=by
 obtain⟨xs,n',_,hx,hlen,hxl,hf⟩:=DataW.trod_struct Tryz.underlying89 h;rw[datesLaw.e7q] at hlen;obtain⟨c0,c1,c2,c3,c4,c5,rfl⟩:=datesLaw.six hlen;obtain⟨x0,x1,x2,x3,x4,x5,rfl⟩:=datesLaw.six (show xs.length=6 from hxl);have f0:=hf 0 _ rfl;have f1:=hf 1 _ rfl;have f2:=hf 2 _ rfl;have f3:=hf 3 _ rfl;have f4:=hf 4 _ rfl;have f5:=hf 5 _ rfl;simp only[List.getElem_toArray,List.getElem_cons_zero,List.getElem_cons_succ,datesLaw.c3D,datesLaw.b7n,List.drop,List.take,List.getElem?_cons_zero,List.getElem?_cons_succ] at f0 f1 f2 f3 f4 f5;obtain⟨i0,e0,_,_⟩:=DataW.trod_int Tryz.underlying3 f0;obtain⟨i1,e1,_,w1⟩:=DataW.trod_int Tryz.underlying3 f1;obtain⟨i2,e2,_,_⟩:=DataW.trod_int Tryz.underlying3 f2;obtain⟨i3,e3,_,_⟩:=DataW.trod_int Tryz.underlying3 f3;obtain⟨i4,e4,_,w4⟩:=DataW.trod_int Tryz.underlying3 f4;obtain⟨i5,e5,d5,_⟩:=DataW.trod_string Tryz.underlying9 f5;simp only[List.cons.injEq,and_true] at e0 e1 e2 e3 e4 e5;subst e0 e1 e2 e3 e4 e5;obtain⟨_,_,hcs⟩:=World.cells?_some hc;have g0:=hcs 0 (by decide);have g1:=hcs 1 (by decide);have g2:=hcs 2 (by decide);have g3:=hcs 3 (by decide);have g4:=hcs 4 (by decide);have g5:=hcs 5 (by decide);have bd:=bounds_i64 w1;have be:=bounds_i64 w4;have ad:∀ j,Addr.add (Addr.add ⟨b,off,none⟩ (k*6)) j=⟨b,off+k*6+j,none⟩:=fun j=>by rw[Deep.add_add,Addr.add];simp[Nat.add_assoc]
 simp only[ad,List.getElem?_cons_zero,List.getElem?_cons_succ] at g0 g1 g2 g3 g4 g5;refine⟨⟨i0,i1,i2,i3,i4,i5⟩,⟨g0,g1,g2,g3,g4,g5⟩,bd.1,bd.2,be.1,be.2,?_⟩;have hz:=Txt.a1l i5;rw[hx,d5];simp only[List.map,Rows.uptoBulk,Rows.uptoBulkAll];omega
theorem script{H:Type}{enc:TypeId × Value->H}{base:Nat}{a0:Option Addr}{len0 cap0:Nat}{d:DataW H}{ps:List MemPlace}(h:DataW.Trod enc Tryz.prog W base spare held 22 (.slice a0 len0 cap0) d ps)(hb:Rows.uptoBulk d<=1048576):e2N W a0 len0/\len0<=1900000:=by
 obtain⟨fuel,hf⟩:=h;rcases Deep.open_slice Tryz.underlying22 hf with ⟨hcs,_⟩|⟨a,l,c,m,n,D,Pl,hcs,_,hl,hm,hmd,hx,hel⟩
 ·simp[Value.cells] at hcs;obtain⟨rfl,rfl,rfl⟩:=hcs;exact⟨fun i hi=>by omega,by omega⟩
 ·simp[Value.cells] at hcs;obtain⟨rfl,rfl,rfl⟩:=hcs;have hd:d=.slice ((List.range len0).map D) ((List.range (m-len0)).map fun j=>D (len0+j)):=congrArg Prod.fst hx;rw[hd] at hb;simp only[Rows.uptoBulk] at hb;have h1:=f0k ((List.range len0).map D);rw[List.length_map,List.length_range] at h1;refine⟨fun i hi=>?_,by omega⟩;have hlm:len0<=m:=by rw[hmd];split <;> omega
  obtain⟨b,off,spot⟩:=a;obtain⟨cs,hc,ht⟩:=hel i (by omega)
  have hspot:spot=none:=by
   obtain⟨cs,hc,_⟩:=hel 0 (by omega);obtain⟨_,hn,hcc⟩:=World.cells?_some hc;rw[datesLaw.e7q] at hn hcc;obtain⟨c0,c1,c2,c3,c4,c5,rfl⟩:=datesLaw.six hn;have g:=hcc 0 (by decide)
   simpa[Addr.add] using World.cell?_spot g
  subst hspot;rw[datesLaw.e7q] at hc;obtain⟨o,o1,o2,o3,o5,o6,o4⟩:=g2Z i hc ht;have h2:=f0h (d:=D i) (l:=(List.range len0).map D) (List.mem_map.2 ⟨i,List.mem_range.2 hi,rfl⟩);exact⟨b,off,o,rfl,o1,o2,o3,o5,o6,by simp only at o4;omega⟩
end Go.Proofs.YtfigmlfdnickmaaGreatDoor.uptoLaw
namespace Go.Proofs.YtfigmlfdnickmaaGreatDoor
namespace Desk
structure h0u(s:St)(r:Rep):Prop where
 en:r.entries.length<=60
 es:∀ e∈r.entries,e∈s.es
 da:r.days.length<=60
 gr:r.granted.length<=100000
 ed:r.ended.length<=60
 er:r.err≠0->r.entries=[]/\r.days=[]/\r.granted=[]/\r.ended=[]
theorem f7Y(h:Inv s){l:a7U}(hl:a1O l):h0u s (a1q s l).2:=by
 obtain⟨⟨a,b,c,d⟩,e⟩:=e6u h hl;refine⟨a,b,c,e,d,fun he=>?_⟩;unfold a1q at he ⊢
 split at he
 ·rename_i q
  rw[if_pos q,b8H q];exact⟨rfl,rfl,rfl,rfl⟩
 ·rename_i q
  exact absurd he q
end Desk
open Go.RowKit
def e6G(r:Rd.a0Y):Nat->List Int
 |0=>[]
 |k+1=>Rd.b4L r (e6G r k) (r.fr+k)
theorem g4g(r:Rd.a0Y):∀ n k:Nat,Rd.a4Y r n (r.fr+k) (e6G r k)=e6G r (k+n)
 |0,k=>rfl
 |n+1,k=>by
  have:=g4g r n (k+1);rw[Rd.a4Y,show k+(n+1)=k+1+n by omega,<- this];simp only[e6G];rw[show r.fr+(k:Int)+1=r.fr+((k+1:Nat):Int) by omega]
theorem f1X{r:Rd.a0Y}:e6G r (728-r.fr).toNat=Rd.a0E r:=by
 have:=g4g r (728-r.fr).toNat 0;rw[Nat.zero_add] at this;rw[<- this];simp[Rd.a0E,e6G]
theorem f1Q(r:Rd.a0Y):∀ k,(e6G r k).length<=k
 |0=>zq _
 |k+1=>by
  have:=f1Q r k;simp only[e6G,Rd.b4L]
  split
  ·simp;omega
  ·omega
theorem g9F{N:Nat}(h:Off G w w')(hN:N<=w.heap.size)(hG:∀ b∈G,N<=b):Below N w w':=⟨h.os,h.tape,h.output,h.size,fun b hb=>h.block b (by omega) fun hx=>by have:=hG b hx;omega⟩
def f8f(r:Rd.a0Y)(w:World)(e:Ending)(w':World):Prop:=Below w.heap.size w w'/\((Rd.a6W r=0/\∃ v,e=.returned (.tuple #[v,.int .i64 0])/\w'.ownsRow w.heap.size 3 1 v (Rd.a0E r).length ((Rd.a0E r).map (Value.int .i64)))\/(Rd.a6W r≠0/\e=.returned (.tuple #[.slice none 0 0,.int .i64 (Rd.a6W r)])))
theorem f8f.err{r:Rd.a0Y}{n:Int}(hb:Below w.heap.size w w')(h:Rd.a6W r=n)(hn:n≠0):f8f r w (.returned (.tuple #[.slice none 0 0,.int .i64 n])) w':=⟨hb,.inr ⟨by rw[h];exact hn,by rw[h]⟩⟩
theorem f6Q(r:Rd.a0Y)(hf:Rd.a6s r)(w:World):Calls Tryz.prog 181 #[ruR r] w (f8f r w):=by
 have f0:=hf.f0;have f1:=hf.f1;have t0:=hf.t0;have HF:=a0b hf;have BX:=a0b (And.intro ((zr _ w).alloc (zq _) (ruB r)) (a0p w (ruB r)));have HS:=a0b (fun d (h0:r.fr<=d) (h1:d<728) W=>h1G r hf d h0 h1 W);simp only[ruR,ruL] at HS ⊢;clear hf
 go_enter Tryz.func181,Tryz.ntmps181
 go_upto_region 1 with fail
 change Code.wp _ _ _ _ (w.alloc (ruB r));generalize w.alloc (ruB r)=W0 at *;have CL:Hid (∀ W,Below W0.heap.size W0 W->W.heap[w.heap.size]?=some (ruB r)):=fun W k=>(k.block _ (Array.getElem?_eq_some_iff.1 BX.out.2).1).trans BX.out.2
 obtain⟨⟨c0,c1,c9,c10,c11,c12,c13⟩,_⟩:=ruC BX.out.2
 go_wp2_with fail
 clear c0 c1 c9 c10 c11 c12 c13
 go_loopw [4,5,6] (fun v d _ wr=>∃ k:Nat,k<=(728-r.fr).toNat/\d=.int .i64 (r.fr+k)/\wr.ownsRow W0.heap.size 3 1 v (e6G r k).length ((e6G r k).map (Value.int .i64))/\Below W0.heap.size W0 wr) (fun _ d _ _=>(728-intOf d).toNat)
 case atStart=>exact⟨0,Nat.zero_le _,by simp,World.ownsRow_nil _ _ _ _,Below.refl _ _⟩
 case round =>
  obtain⟨k,hk,rfl,ho,hbl⟩:=hrel;have HO:=a0b (And.intro ho hbl);obtain⟨va,vc,rfl⟩:=c9y ho;clear ho hbl
  by_cases hlt:r.fr+k<728
  ·obtain⟨⟨c0,c1,c9,c10,c11,c12,c13⟩,cJ⟩:=ruC (CL.out _ HO.out.2);have j0:=cJ 0 (by omega);have j1:=cJ 1 (by omega);have j2:=cJ 2 (by omega);have j3:=cJ 3 (by omega);have j4:=cJ 4 (by omega);have j5:=cJ 5 (by omega);have j6:=cJ 6 (by omega);clear cJ;have wd:IntKind.i64.wrap (r.fr+k+1)=r.fr+k+1:=a0i (by omega) (by omega)
   go_upto_region 6 with (first|(go_at_call 239;refine (HS.out (r.fr+k) (by omega) hlt _).mono ?_;rintro e w1 ⟨rfl,hb1⟩;have B1:=a0b hb1;clear hb1))
   have OW:=a0b (a1g HO.out.1 B1.out);have BK:=a0b (a0j HO.out.2 B1.out (zq _));have hlen:=f1Q r k;clear c0 c1 c9 c10 c11 c12 c13 j0 j1 j2 j3 j4 j5 j6;obtain⟨⟨_,_,_,_,_,c12,c13⟩,_⟩:=ruC (CL.out _ BK.out)
   cases hb:Rd.has r (r.fr+k)
   ·have HN:Hid (e6G r (k+1)=e6G r k):=if_neg (fun e=>by rw[hb] at e;exact absurd e.1 (by simp));clear hb
    go_wp2_with fail
    exact⟨⟨k+1,by omega,by go_num,by rw[HN.out];exact OW.out,BK.out⟩,by simp[intOf];omega⟩
   ·by_cases ht:r.ti=0
    ·have ht':(r.ti==0)=true:=by simp[ht]
     have ht2:¬ (0:Int)<r.ti:=by omega
     by_cases hu:r.fr+k<=r.un
     ·have HY:Hid (e6G r (k+1)=e6G r k++[r.fr+k]):=if_pos ⟨hb,.inl ⟨ht,hu⟩⟩;clear hb
      go_wp2_with (first|(at_builtin;refine g3H rfl _ _ rfl OW.out (r.fr+k) rfl rfl (by omega) (by have:=HO.out.2.size;have:=B1.out.size;omega) ?_;intro v' w2 o2 k2))
      exact⟨⟨k+1,by omega,by go_num,by rw[HY.out];exact o2,BK.out.trans (g9F k2 BK.out.size fun b hb=>(OW.out.lt b (Option.mem_toList.1 hb)).1)⟩,by simp[intOf];omega⟩
     ·have HN:Hid (e6G r (k+1)=e6G r k):=if_neg (fun e=>by rcases e.2 with q|q <;> omega);clear hb
      go_wp2_with fail
      exact⟨⟨k+1,by omega,by go_num,by rw[HN.out];exact OW.out,BK.out⟩,by simp[intOf];omega⟩
    ·have ht':(r.ti==0)=false:=by simp[ht]
     have ht2:(0:Int)<r.ti:=by omega
     by_cases hu:((e6G r k).length:Int)<r.ti
     ·have HY:Hid (e6G r (k+1)=e6G r k++[r.fr+k]):=if_pos ⟨hb,.inr ⟨ht2,hu⟩⟩;clear hb
      go_wp2_with (first|(at_builtin;refine g3H rfl _ _ rfl OW.out (r.fr+k) rfl rfl (by omega) (by have:=HO.out.2.size;have:=B1.out.size;omega) ?_;intro v' w2 o2 k2))
      exact⟨⟨k+1,by omega,by go_num,by rw[HY.out];exact o2,BK.out.trans (g9F k2 BK.out.size fun b hb=>(OW.out.lt b (Option.mem_toList.1 hb)).1)⟩,by simp[intOf];omega⟩
     ·have HN:Hid (e6G r (k+1)=e6G r k):=if_neg (fun e=>by rcases e.2 with q|q <;> omega);clear hb
      go_wp2_with fail
      exact⟨⟨k+1,by omega,by go_num,by rw[HN.out];exact OW.out,BK.out⟩,by simp[intOf];omega⟩
  ·have hkk:k=(728-r.fr).toNat:=by omega
   rw[hkk,f1X] at HO;have hlen:=f1Q r (728-r.fr).toNat;rw[hkk,f1X];rw[f1X] at hlen;have B0:=a0b (a0j BX.out.1 HO.out.2 (zq _));obtain⟨⟨_,_,_,c10,c11,c12,_⟩,_⟩:=ruC (CL.out _ HO.out.2);clear hk hkk hlt;have hl728:(Rd.a0E r).length<=728:=by omega
   clear hlen
   by_cases h40:40<(Rd.a0E r).length
   ·have h40':(40:Int)<((Rd.a0E r).length:Int):=by omega
    have HD:Hid (Rd.a6W r=11):=if_pos (.inl h40)
    go_wp2_with fail
    go_ret2;exact f8f.err B0.out HD.out (by decide)
   have h40':¬ (40:Int)<((Rd.a0E r).length:Int):=by omega
   by_cases ht:40<r.ti
   ·have HD:Hid (Rd.a6W r=11):=if_pos (.inr ht)
    go_wp2_with fail
    go_ret2;exact f8f.err B0.out HD.out (by decide)
   have H40:Hid (¬ (40<(Rd.a0E r).length\/40<r.ti)):=by rw[Hid];omega
   by_cases hz:(Rd.a0E r).length=0
   ·have hz':(((Rd.a0E r).length:Int)==0)=true:=by simp[hz]
    have HD:Hid (Rd.a6W r=6):=(if_neg H40.out).trans (if_pos (.inl (List.length_eq_zero_iff.1 hz)))
    go_wp2_with fail
    go_ret2;exact f8f.err B0.out HD.out (by decide)
   have hz':(((Rd.a0E r).length:Int)==0)=false:=by rw[beq_eq_false_iff_ne];omega
   by_cases hl:((Rd.a0E r).length:Int)<r.ti
   ·have HD:Hid (Rd.a6W r=6):=(if_neg H40.out).trans (if_pos (.inr hl))
    go_wp2_with fail
    go_ret2;exact f8f.err B0.out HD.out (by decide)
   have HD:Hid (Rd.a6W r=if (Rd.a0E r).any (Rd.a8m r) then 6 else 0):=(if_neg H40.out).trans (if_neg (by
    rintro (e|e)
    ·exact hz (by rw[e];rfl)
    ·exact hl e))
   have hne:0<(Rd.a0E r).length:=by omega
   go_wp2_with fail
   have MM:=a0b (fun i (hi:i<(Rd.a0E r).length)=>And.intro (Rd.a4x HF.out (zg hi)) (And.intro HF.out.m0 (And.intro HF.out.m1 (And.intro HF.out.i1 HF.out.i2))));clear HS c10 c11 c12 h40 ht hz hl hz' h40';obtain⟨V,hV⟩:∃ V,V=wr:=⟨_,rfl⟩;subst hV
   go_loopw [7] (fun v wx=>∃ i:Nat,i<=(Rd.a0E r).length/\v=.int .i64 i/\(∀ x∈(Rd.a0E r).take i,Rd.a8m r x=false)/\Below V.heap.size V wx) (fun v _=>(Rd.a0E r).length-(intOf v).toNat)
   case atStart=>exact⟨0,Nat.zero_le _,rfl,by simp,Below.refl _ _⟩
   case round =>
    obtain⟨i,hi,rfl,hno,hbl⟩:=hrel;have HB:=a0b (And.intro hno (And.intro hbl (a0j B0.out hbl (zq _))));clear hno hbl
    by_cases hlt:i<(Rd.a0E r).length
    ·have hlt':(i:Int)<((Rd.a0E r).length:Int):=by omega
     obtain⟨g,cap,e,y⟩:=e4k HO.out.1 (k:=i) (u:=.int .i64 (Rd.a0E r)[i]) (by rw[List.getElem?_map,List.getElem?_eq_getElem hlt];rfl);simp only[Value.slice.injEq,true_and] at e;obtain⟨rfl,rfl⟩:=e;have y':=a0a HB.out.2.1 y;clear y;obtain⟨⟨_,_,_,c10,c11,_⟩,_⟩:=ruC (CL.out _ (a0j HO.out.2 HB.out.2.1 (zq _)));obtain⟨⟨m1,m2⟩,m3,m4,m5,m6⟩:=MM.out i hlt
     have HT:Hid (∀ x∈(Rd.a0E r).take (i+1),x∈(Rd.a0E r).take i\/x=(Rd.a0E r)[i]):=fun x hx=>by
      rw[List.take_succ_eq_append_getElem hlt] at hx;exact (List.mem_append.1 hx).imp id List.mem_singleton.1
     have HM:Hid ((Rd.a0E r)[i]∈Rd.a0E r):=zg hlt;generalize (Rd.a0E r)[i]=x at *;have w1:IntKind.i64.wrap (1440*x)=1440*x:=a0i (by omega) (by omega);have w2:IntKind.i64.wrap (1440*x+r.mn)=1440*x+r.mn:=a0i (by omega) (by omega);have w3:IntKind.i64.wrap (1440*x+r.mn+r.mi)=1440*x+r.mn+r.mi:=a0i (by omega) (by omega)
     by_cases hla:(1048320:Int)<1440*x+r.mn+r.mi
     ·have HX:Hid (Rd.a6W r=6):=HD.out.trans (if_pos (List.any_eq_true.2 ⟨x,HM.out,decide_eq_true (by omega)⟩))
      go_upto_region 15 with fail
      go_quiet (fail)
      go_wp2_with fail
      go_ret2;exact f8f.err (d7M HB.out.2.2 _) HX.out (by decide)
     ·go_upto_region 15 with fail
      go_quiet (fail)
      go_wp2_with fail
      exact⟨⟨i+1,by omega,by go_num,fun y hy=>by
       rcases HT.out y hy with e|e
       ·exact HB.out.1 y e
       ·rw[e];exact decide_eq_false (by omega),d7M HB.out.2.1 _⟩,by simp[intOf];omega⟩
    ·have hlt':¬ (i:Int)<((Rd.a0E r).length:Int):=by omega
     have HX:Hid (Rd.a6W r=0):=HD.out.trans (if_neg (by
      rw[List.any_eq_true];rintro ⟨x,hx,hl⟩;rw[HB.out.1 x (by rw[List.take_of_length_le (by omega)];exact hx)] at hl
      cases hl))
     go_wp2_with fail
     go_ret2;exact⟨HB.out.2.2,.inl ⟨HX.out,_,rfl,d7F (a1g HO.out.1 HB.out.2.1) BX.out.1.size⟩⟩
open Desk (Ent St Rep a0g)
theorem f5D:(Tryz.prog.info? 315).map (fun i=>(i.zero,i.size,i.bytes))=some (some (.agg #[.string ⟨#[]⟩,.int .i64 0]),2,24):=by kernel_rfl
theorem e4W(args:Array Value)(w:World):(callFunc 126 args).run Tryz.prog w=.ok (.enter 126 args) w:=by kernel_rfl
theorem DD.thinged{Y w5:World}{xs:List (Ent × Nat × Nat)}{cap:Nat}{t:ByteArray × Int}(h:DD Y d s xs F)(cv:Y.cell? ⟨d,0,none⟩=some v)(ho:Y.ownsRow 0 315 2 v s.ts.length (s.ts.flatMap c4x))(hvF:∀ k,v.ownBlock=some k->k∈F/\k≠d)(k:Off (v.ownBlock.toList) Y w5)(ho5:w5.ownsRow 0 315 2 (.slice (some ⟨g,0,none⟩) (s.ts.length+1) cap) (s.ts.length+1) (s.ts.flatMap c4x++c4x t))(hg:v.ownBlock=some g\/Y.heap.size<=g)(hl:s.ts.length<4):
  DD (w5.setCell ⟨d,0,none⟩ (.slice (some ⟨g,0,none⟩) (s.ts.length+1) cap)) d { s with ts:=s.ts++[t] } xs (g :: F)/\Off F Y (w5.setCell ⟨d,0,none⟩ (.slice (some ⟨g,0,none⟩) (s.ts.length+1) cap)):=by
 obtain⟨v2,b1,b2,b3⟩:=h.rd.ev;have hdl:d<Y.heap.size:=h.lt d h.rd.dF
 have hgd:g≠d:=by
  rcases hg with e|e
  ·exact (hvF g e).2
  ·omega
 have hvF2:∀ y∈v.ownBlock.toList,y∈F/\y≠d:=fun y hy=>hvF y (by simpa using hy)
 have hdv:d ∉ v.ownBlock.toList:=fun e=>(hvF2 d e).2 rfl
 have k0:Off [d] w5 (w5.setCell ⟨d,0,none⟩ (.slice (some ⟨g,0,none⟩) (s.ts.length+1) cap)):=Off.set0 ..;have k1:Off (d :: v.ownBlock.toList) Y (w5.setCell ⟨d,0,none⟩ (.slice (some ⟨g,0,none⟩) (s.ts.length+1) cap)):=(k.mono (by intro y hy;exact List.mem_cons_of_mem _ hy)).setCell (.inl (by simp)) _ _
 have hF1:∀ y,y ∉ F->y ∉ d :: v.ownBlock.toList:=by
  intro y hy e;rcases List.mem_cons.1 e with rfl|e
  ·exact hy h.rd.dF
  ·exact hy (hvF2 y e).1
 have hv2:∀ b,v2.ownBlock=some b->b ∉ d :: v.ownBlock.toList:=by
  intro b hb e;rcases List.mem_cons.1 e with e|e
  ·exact (b3 b hb).2 e
  ·have e:v.ownBlock=some b:=by simpa using e
   rcases ho.2 with ⟨rfl,_⟩|⟨g',cap',cur,rfl,_,hh,_⟩
   ·simp[Value.ownBlock] at e
   ·simp[Value.ownBlock] at e;subst e;exact c8L b2 hh (by decide) hb
 have cd:∀ o u,Y.cell? ⟨d,o,none⟩=some u->o≠0->(w5.setCell ⟨d,0,none⟩ (.slice (some ⟨g,0,none⟩) (s.ts.length+1) cap)).cell? ⟨d,o,none⟩=some u:=fun o u hu _=>(zS _ _ _ _ (by simp)).trans (k.cell hdv hu)
 refine⟨⟨⟨⟨_,World.cell?_setCell_same _ _ _ (k.cell hdv cv),?_,fun b hb=>?_⟩,⟨v2,cd 1 _ b1 (by omega),a1i b2 k1 hv2,fun b hb=>⟨List.mem_cons_of_mem _ (b3 b hb).1,(b3 b hb).2⟩⟩,cd 2 _ h.rd.c2 (by omega),cd 3 _ h.rd.c3 (by omega),fun o=>(zF ..).trans ((k.frozen hdv hdl).trans (h.rd.fz o)),List.mem_cons_of_mem _ h.rd.dF,fun y hy=>?_⟩,h.es,fun x hx=>?_,?_,h.el,h.en⟩,k1.mono (fun y hy=>?_)⟩
 ·have e1:(s.ts++[t]).flatMap c4x=s.ts.flatMap c4x++c4x t:=by simp
  rw[e1,List.length_append];exact a1i ho5 k0 (fun b hb=>by simp[Value.ownBlock] at hb;subst hb;simpa using hgd)
 ·simp[Value.ownBlock] at hb;subst hb;exact⟨by simp,hgd⟩
 ·obtain⟨y1,y2,y3⟩:=h.rd.sp y hy;refine⟨y1.off k1 (hF1 _ y2),fun e=>?_,Nat.lt_of_lt_of_le y3 k1.size⟩;rcases List.mem_cons.1 e with e|e
  ·rcases hg with e2|e2
   ·exact y2 (e ▸ (hvF g e2).1)
   ·omega
  ·exact y2 e
 ·rcases List.mem_cons.1 hx with rfl|hx
  ·exact zL (c7O ho5 rfl) k0.size
  ·exact zL (h.lt x hx) k1.size
 ·simp;omega
 ·rcases List.mem_cons.1 hy with rfl|hy
  ·exact h.rd.dF
  ·exact (hvF2 y hy).1
theorem f0K{xs:List (Ent × Nat × Nat)}(h:DD w d s xs F)(hl:2<n)(z2:ut.size<=160)(hun:0<=Desk.a0h name s.ts)(h1:w.cell? ⟨g,1,none⟩=some (.string name))(h2:w.cell? ⟨g,2,none⟩=some (.string ut)):
  Calls Tryz.prog 172 #[.pointer (some ⟨d,0,none⟩),.slice (some ⟨g,0,none⟩) n c] w (d1S w d F xs (a0g s (.a0k name (b4g ut 1 7)))):=by
 obtain⟨ti,hi0,hz0,hz1,hz2⟩:=info_parts f5D;have P0:=a0b ((KP.nil w).alloc a0f);have H:=a0b h;have D0:=a0b (h.later P0.out.bl);have i1:(1:Int)<(n:Int):=by omega
 have i2:(2:Int)<(n:Int):=by omega
 have y1:=a0a P0.out.bl h1;have y2:=a0a P0.out.bl h2;have UN:=a0b (D0.out.a0c name);have NM:=a0b (fun wx=>b0E ut 1 7 wx z2 (by omega) (by omega));have HD:Hid (a0g s (.a0k name (b4g ut 1 7))=if Desk.a0h name s.ts≠0 then (s,.error 4) else if s.ts.length=4 then (s,.error 5) else ({ s with ts:=s.ts++[(name,b4g ut 1 7)] },.num 0)):=rfl;clear h
 go_enter Tryz.func172,Tryz.ntmps172
 go_upto_region 1 with fail
 change Code.wp _ _ _ _ (w.alloc a0f);generalize w.alloc a0f=X at *;generalize b4g ut 1 7=u at *;generalize Desk.a0h name s.ts=un at *
 go_wp2_with fail
 refine UN.out.mono ?_;rintro e w1 ⟨rfl,rfl⟩;clear UN;have Q1:=a0b (Q7.of (P0.out.kb (w.heap.size,a0f) (by simp)));obtain⟨v,cv,ho,hvF⟩:=D0.out.rd.tv;obtain⟨av,cpv,rfl⟩:=c9y ho
 by_cases a1:0<un
 ·have HF:Hid (d1S w d F xs (a0g s (.a0k name u)) (.returned (a0s 4 0 0 c7N c7N c7N c7N)) (a2w w1 w.heap.size (.int .i64 4) (.int .i64 0) (.int .i64 0) c7N c7N c7N c7N)):=by
   show d1S w d F xs _ _ _;rw[HD.out,if_pos (by omega)];exact H.out.said P0.out.bl (zq _) 4 0 _ _ _ _ _ _ _
  obtain⟨q0,q1,q2,q3,q4,q5,q6,fq⟩:=Q1.out
  go_wp2_with fail
  exact d0O Tryz.results172 ⟨q0,q1,q2,q3,q4,q5,q6,fq⟩ HF.out
 ·by_cases a2:s.ts.length=4
  ·have HF:Hid (d1S w d F xs (a0g s (.a0k name u)) (.returned (a0s 5 0 0 c7N c7N c7N c7N)) (a2w w1 w.heap.size (.int .i64 5) (.int .i64 0) (.int .i64 0) c7N c7N c7N c7N)):=by
    show d1S w d F xs _ _ _;rw[HD.out,if_neg (by omega),if_pos a2];exact H.out.said P0.out.bl (zq _) 5 0 _ _ _ _ _ _ _
   have q2':((s.ts.length:Int)==4)=true:=by simp;omega
   obtain⟨q0,q1,q2,q3,q4,q5,q6,fq⟩:=Q1.out
   go_wp2_with fail
   exact d0O Tryz.results172 ⟨q0,q1,q2,q3,q4,q5,q6,fq⟩ HF.out
  ·have q2':((s.ts.length:Int)==4)=false:=by simp;omega
   have hts:s.ts.length<4:=by have:=H.out.tl;omega
   have E9:Hid (a0g s (.a0k name u)=({ s with ts:=s.ts++[(name,u)] },⟨0,0,0,[],[],[],[]⟩)):=by
    show _=_;rw[HD.out,if_neg (by omega),if_neg a2];rfl
   have fd:=D0.out.rd.fz 0;have HO:=a0b (And.intro ho hvF);clear ho hvF a2 HD
   go_upto_region 6 with fail
   go_cut [34] from 21 to 37 (fun _ wx=>∃ g' cp Y w5,Below w1.heap.size w1 Y/\Off ((Value.slice av s.ts.length cpv).ownBlock.toList) Y w5/\w5.ownsRow 0 315 2 (.slice (some ⟨g',0,none⟩) (s.ts.length+1) cp) (s.ts.length+1) (s.ts.flatMap c4x++c4x (name,u))/\((Value.slice av s.ts.length cpv).ownBlock=some g'\/Y.heap.size<=g')/\wx=w5.setCell ⟨d,0,none⟩ (.slice (some ⟨g',0,none⟩) (s.ts.length+1) cp))
   case first =>
    go_region_law (first
     |(refine a2k (by rfl) 126 _ _ (by rfl) _ (by simp[Act.eval]) (e4W _ _) (NM.out _) ?_;rintro e w4 ⟨rfl,hb4⟩;refine⟨_,rfl,?_⟩;have kb4:Below w1.heap.size w1 w4:=a0j (a0q w1) hb4 (zq _);have cv4:=a0a kb4 cv;have cvA:∀ o,(w4.alloc o).cell? ⟨d,0,none⟩=some (.slice av s.ts.length cpv):=(fun o=>a0a ((zr _ _).alloc (zq _) _) cv4);have y14:=a0a kb4 y1;have fd4:=(kb4.frozen (World.block_lt_of_cell? _ _ cv)).trans fd;clear hb4)
     |(refine step_append_lies _ rfl _ _ 103 rfl 0 315 ti _ 2 24 Tryz.underlying103 hi0 hz0 hz1 hz2 rfl (by decide) (.slice av s.ts.length cpv) s.ts.length (s.ts.flatMap c4x) rfl (a1g HO.out.1 (a0j kb4 ((zr _ _).alloc (zq _) _) (zq _))) ⟨w4.heap.size,0,none⟩ 1 1 (c4x (name,u)) rfl rfl (World.news_of_block (cs:=(c4x (name,u)).toArray) (a0p w4 _)) (by simp[c4x,Value.oneCell']) (by omega) (by unfold maxLen;omega) (by omega) (zN _) (w4.heap.size+1) (by simp) ?_;intro g' cp w5 ho5 hgrow hat hlt;have kk:Off ((Value.slice av s.ts.length cpv).ownBlock.toList) w4 w5:=Off.grown ((Off.refl _ w4).alloc _) hgrow (fun k hk=>.inl (by simp[hk]));have hdv:d ∉ (Value.slice av s.ts.length cpv).ownBlock.toList:=(fun e=>(HO.out.2 d (by simpa using e)).2 rfl);have z1:=kk.cell hdv cv4;have z2:=(kk.frozen (o:=0) hdv (World.block_lt_of_cell? _ _ cv4)).trans fd4))
    all_goals
     go_wp2_with fail
     go_meet
     exact⟨g',cp,w4,w5,kb4,kk,ho5,hat.imp id (fun e=>by omega),rfl⟩
   case rest =>
    obtain⟨g',cp,Y,w5,kY,k5,ho5,hat,rfl⟩:=hcut;obtain⟨hJ,hO⟩:=(D0.out.later kY).thinged (a0a kY cv) (a1g HO.out.1 kY) HO.out.2 k5 ho5 hat hts;have hQF:w.heap.size ∉ F:=fun e=>by have:=H.out.lt _ e;omega
    have hQ:w.heap.size<w1.heap.size:=World.block_lt_of_cell? _ _ Q1.out.q0;have hQY:=kY.size;have hQ8:=hO.block w.heap.size (by omega) hQF;have Q2:=a0b ((Q1.out.later (kY.block _ hQ)).later hQ8)
    have hg':∀ x∈g' :: F,x∈F\/Y.heap.size<=x:=fun x hx=>by
     rcases List.mem_cons.1 hx with rfl|hx
     ·exact hat.imp (fun e=>(HO.out.2 x e).1) id
     ·exact .inl hx
    have hz:=P0.out.bl.size;have hw:Off F w (w5.setCell ⟨d,0,none⟩ (.slice (some ⟨g',0,none⟩) (s.ts.length+1) cp)):=((Off.of_below P0.out.bl).trans (Off.of_below kY)).trans hO;generalize w5.setCell ⟨d,0,none⟩ _=Z at *
    have HF:Hid (d1S w d F xs ({ s with ts:=s.ts++[(name,u)] },⟨0,0,0,[],[],[],[]⟩) (.returned (a0s 0 0 0 c7N c7N c7N c7N)) (a2w Z w.heap.size (.int .i64 0) (.int .i64 0) (.int .i64 0) c7N c7N c7N c7N)):=by
     refine hJ.put7 (fun x hx=>(hg' x hx).imp id (fun e=>by omega)) hw (zq _) (fun e=>?_) (fun x hx e=>?_) (fun x hx=>.inl ⟨x,hx,rfl⟩) 0 0 _ _ _ _ _ _ _
     ·rcases hg' _ e with e|e
      ·exact hQF e
      ·omega
     ·have:=(H.out.rd.sp x hx).2.2;omega
    obtain⟨q0,q1,q2,q3,q4,q5,q6,fq⟩:=Q2.out;clear hJ hO hw HO k5 ho5 cv
    go_wp2_with fail
    exact d0O Tryz.results172 ⟨q0,q1,q2,q3,q4,q5,q6,fq⟩ (by rw[E9.out];exact HF.out)
theorem g2c(args:Array Value)(w:World):(callFunc 237 args).run Tryz.prog w=.ok (.enter 237 args) w:=by kernel_rfl
theorem f2f{xs:List (Ent × Nat × Nat)}(h:DD w d s xs F){lt:ByteArray}(hn:5<n)(z2:ut.size<=160)(z3:lt.size<=160)(z4:ft.size<=160)(z5:tt.size<=160)(hu:0<=b4g ut 1 7/\b4g ut 1 7<=9)(hlo:0<=b4g lt 1 7/\b4g lt 1 7<=1048320)(hfr:0<=g2T ft/\g2T ft<=1048320)(h1:w.cell? ⟨g,1,none⟩=some (.string name))(h2:w.cell? ⟨g,2,none⟩=some (.string ut))(h3:w.cell? ⟨g,3,none⟩=some (.string lt))(h4:w.cell? ⟨g,4,none⟩=some (.string ft))(h5:w.cell? ⟨g,5,none⟩=some (.string tt)):
  Calls Tryz.prog 178 #[.pointer (some ⟨d,0,none⟩),.slice (some ⟨g,0,none⟩) n c] w (d1S w d F xs (a0g s (.find name (b4g ut 1 7) (b4g lt 1 7) (g2T ft) (g2T tt)))):=by
 have P0:=a0b ((KP.nil w).alloc a0f);have H:=a0b h;have i1:(1:Int)<(n:Int):=by omega
 have i2:(2:Int)<(n:Int):=by omega
 have i3:(3:Int)<(n:Int):=by omega
 have i4:(4:Int)<(n:Int):=by omega
 have i5:(5:Int)<(n:Int):=by omega
 have y2:=a0a P0.out.bl h2;have N1:=a0b (fun wx=>b0E ut 1 7 wx z2 (by omega) (by omega));have N2:=a0b (fun wx=>b0E lt 1 7 wx z3 (by omega) (by omega));have T1:=a0b (fun wx=>d0T ft wx z4);have T2:=a0b (fun wx=>d0T tt wx z5);have HD:Hid (a0g s (.find name (b4g ut 1 7) (b4g lt 1 7) (g2T ft) (g2T tt))=if Desk.a0S s.ts name (b4g ut 1 7)≠0 then (s,.error (Desk.a0S s.ts name (b4g ut 1 7))) else if g2T tt<=g2T ft then (s,.error 6) else (s,.num (Desk.a9A s.ts s.es name (b4g ut 1 7) (b4g lt 1 7) (g2T ft) (g2T tt)))):=rfl;clear h
 go_enter Tryz.func178,Tryz.ntmps178
 go_upto_region 1 with fail
 change Code.wp _ _ _ _ (w.alloc a0f);generalize w.alloc a0f=X at *;generalize a0g s _=D at *;generalize b4g ut 1 7=u at *;generalize b4g lt 1 7=lo at *;generalize g2T ft=fr at *;generalize g2T tt=til at *
 go_wp2_with fail
 refine (N1.out _).mono ?_;rintro e w1 ⟨rfl,hb⟩;replace P0:=a0b (P0.out.later hb);have y4:=a0a P0.out.bl h4;clear hb y2
 go_wp2_with fail
 refine (T1.out _).mono ?_;rintro e w2 ⟨rfl,hb⟩;replace P0:=a0b (P0.out.later hb);have y5:=a0a P0.out.bl h5;clear hb y4
 go_wp2_with fail
 refine (T2.out _).mono ?_;rintro e w3 ⟨rfl,hb⟩;replace P0:=a0b (P0.out.later hb);have y1:=a0a P0.out.bl h1;have y3:=a0a P0.out.bl h3;clear hb y5 N1 T1 T2 X;have D0:=a0b (H.out.later P0.out.bl);have AK:=a0b (D0.out.asked name u);have hQ:w.heap.size<w3.heap.size:=P0.out.lt (q:=(w.heap.size,a0f)) (by simp);have Q1:=a0b (Q7.of (P0.out.kb (w.heap.size,a0f) (by simp)));generalize Desk.a0S s.ts name u=an at *
 go_wp2_with fail
 refine AK.out.mono ?_;rintro e w4 ⟨rfl,rfl⟩;clear AK
 have ERR:Hid (∀ er,D=(s,.error er)->d1S w d F xs D (.returned (a0s er 0 0 c7N c7N c7N c7N)) (a2w w4 w.heap.size (.int .i64 er) (.int .i64 0) (.int .i64 0) c7N c7N c7N c7N)):=fun er e=>by
  rw[e];exact H.out.said P0.out.bl (zq _) er 0 _ _ _ _ _ _ _
 by_cases a1:an=0
 ·subst a1
  by_cases a2:til<=fr
  ·have HF:=a0b (ERR.out 6 (by rw[HD.out];simp[a2]));obtain⟨q0,q1,q2,q3,q4,q5,q6,fq⟩:=Q1.out
   go_wp2_with fail
   exact d0O Tryz.results178 ⟨q0,q1,q2,q3,q4,q5,q6,fq⟩ HF.out
  ·have E9:Hid (D=(s,.num (Desk.a9A s.ts s.es name u lo fr til))):=by show _=_;rw[HD.out,if_neg (by simp),if_neg a2]
   have FN:Hid (∀ wx,Below w4.heap.size w4 wx->Calls Tryz.prog 237 #[.pointer (some ⟨d,0,none⟩),.string name,.int .i64 u,.int .i64 lo,.int .i64 fr,.int .i64 til] wx fun e w'=>e=.returned (.int .i64 (Desk.a9A s.ts s.es name u lo fr til))/\Below wx.heap.size wx w'):=fun wx k=>(D0.out.later k).find name u lo fr til hu.1 hu.2 hlo.1 (by omega) hfr.1 (by omega)
   have AF:Hid (∀ wx,Below w4.heap.size w4 wx->Q7 wx w.heap.size/\d1S w d F xs D (.returned (a0s 0 0 (Desk.a9A s.ts s.es name u lo fr til) c7N c7N c7N c7N)) (a2w wx w.heap.size (.int .i64 0) (.int .i64 0) (.int .i64 (Desk.a9A s.ts s.es name u lo fr til)) c7N c7N c7N c7N)):=fun wx k=>⟨Q1.out.later (k.block _ hQ),by rw[E9.out];exact H.out.said (a0j P0.out.bl k (zq _)) (zq _) 0 _ _ _ _ _ _ _ _⟩
   generalize Desk.a9A s.ts s.es name u lo fr til=fv at *;clear ERR E9 HD
   go_upto_region 9 with fail
   go_region_law (first
    |(refine a2k (by rfl) 126 _ _ (by rfl) _ (by simp[Act.eval]) (e4W _ _) (N2.out _) ?_;rintro e w5 ⟨rfl,hb5⟩;refine⟨_,rfl,?_⟩;have kb5:Below w4.heap.size w4 w5:=a0j (a0q w4) hb5 (zq _);have y15:=a0a kb5 y1;clear hb5)
    |(refine a2k (by rfl) 237 _ _ (by rfl) _ (by simp[Act.eval]) (g2c _ _) (FN.out _ kb5) ?_;rintro e w6 ⟨rfl,hb6⟩;refine⟨_,rfl,?_⟩;have FF:=a0b (AF.out w6 (a0j kb5 hb6 (zq _)));obtain⟨⟨q0,q1,q2,q3,q4,q5,q6,fq⟩,_⟩:=FF.out;clear hb6))
   all_goals
    go_wp2_with fail
    exact d0O Tryz.results178 ⟨q0,q1,q2,q3,q4,q5,q6,fq⟩ FF.out.2
 ·have HF:=a0b (ERR.out an (by rw[HD.out,if_pos a1]));have a1':(an==0)=false:=by simpa using a1
  have a1'':(an != 0)=true:=by simpa using a1
  obtain⟨q0,q1,q2,q3,q4,q5,q6,fq⟩:=Q1.out;clear a1
  go_wp2_with fail
  exact d0O Tryz.results178 ⟨q0,q1,q2,q3,q4,q5,q6,fq⟩ HF.out
def ruX(kw:ByteArray)(ev:Int)(m:Int->Bool)(fr mn mi ti un:Int):Obj:=.cells #[.string kw,.int .i64 ev,.bool (m 0),.bool (m 1),.bool (m 2),.bool (m 3),.bool (m 4),.bool (m 5),.bool (m 6),.int .i64 fr,.int .i64 mn,.int .i64 mi,.int .i64 ti,.int .i64 un] 273
abbrev ruZ(kw:ByteArray)(ev:Int):Obj:=ruX kw ev (fun _=>false) 0 0 0 0 0
theorem g7z{ev mn mi ti un:Int}{m:Int->Bool}(h:W.heap[b]?=some (ruX kw ev m fr mn mi ti un)):(W.cell? ⟨b,0,none⟩=some (.string kw)/\W.cell? ⟨b,1,none⟩=some (.int .i64 ev)/\W.cell? ⟨b,2,none⟩=some (.bool (m 0))/\W.cell? ⟨b,3,none⟩=some (.bool (m 1))/\W.cell? ⟨b,4,none⟩=some (.bool (m 2))/\W.cell? ⟨b,5,none⟩=some (.bool (m 3))/\W.cell? ⟨b,6,none⟩=some (.bool (m 4))/\W.cell? ⟨b,7,none⟩=some (.bool (m 5))/\W.cell? ⟨b,8,none⟩=some (.bool (m 6))/\W.cell? ⟨b,9,none⟩=some (.int .i64 fr)/\W.cell? ⟨b,10,none⟩=some (.int .i64 mn)/\W.cell? ⟨b,11,none⟩=some (.int .i64 mi)/\W.cell? ⟨b,12,none⟩=some (.int .i64 ti)/\W.cell? ⟨b,13,none⟩=some (.int .i64 un))/\∀ o,W.frozen? ⟨b,o,none⟩=false :=
 ⟨⟨d0h h 0 rfl,d0h h 1 rfl,d0h h 2 rfl,d0h h 3 rfl,d0h h 4 rfl,d0h h 5 rfl,d0h h 6 rfl,d0h h 7 rfl,d0h h 8 rfl,d0h h 9 rfl,d0h h 10 rfl,d0h h 11 rfl,d0h h 12 rfl,d0h h 13 rfl⟩,fun o=>by simp[World.frozen?,h,ruX]⟩
theorem KP.at0{L:List (Nat × Obj)}{o:Obj}(h:KP w W ((b,o) :: L)):W.heap[b]?=some o:=h.kb _ (List.mem_cons_self ..)
theorem KP.put14{L:List (Nat × Obj)}{t:TypeId}{m:Nat × Nat}{a0 a1 a2 a3 a4 a5 a6 a7 a8 a9 a10 a11 a12 a13:Value}(h:KP w wx ((b,.cells #[a0,a1,a2,a3,a4,a5,a6,a7,a8,a9,a10,a11,a12,a13] t m) :: L))(v0 v1 v2 v3 v4 v5 v6 v7 v8 v9 v10 v11 v12 v13:Value):KP w ((((((((((((((wx.setCell ⟨b,0,none⟩ v0).setCell ⟨b,1,none⟩ v1).setCell ⟨b,2,none⟩ v2).setCell ⟨b,3,none⟩ v3).setCell ⟨b,4,none⟩ v4).setCell ⟨b,5,none⟩ v5).setCell ⟨b,6,none⟩ v6).setCell ⟨b,7,none⟩ v7).setCell ⟨b,8,none⟩ v8).setCell ⟨b,9,none⟩ v9).setCell ⟨b,10,none⟩ v10).setCell ⟨b,11,none⟩ v11).setCell ⟨b,12,none⟩ v12).setCell ⟨b,13,none⟩ v13) ((b,.cells #[v0,v1,v2,v3,v4,v5,v6,v7,v8,v9,v10,v11,v12,v13] t m) :: L):=by
 have:=(((((((((((((h.put 0 v0).put 1 v1).put 2 v2).put 3 v3).put 4 v4).put 5 v5).put 6 v6).put 7 v7).put 8 v8).put 9 v9).put 10 v10).put 11 v11).put 12 v12).put 13 v13;simp only[List.setIfInBounds_toArray,List.set_cons_zero,List.set_cons_succ] at this;exact this
section
variable {w W:World}{L:List (Nat × Obj)}{b:Nat}{kw:ByteArray}{ev fr mn mi ti un:Int}{m:Int->Bool}
theorem KP.ru9(h:KP w W ((b,ruX kw ev m fr mn mi ti un) :: L))(x:Int):KP w (W.setCell ⟨b,9,none⟩ (.int .i64 x)) ((b,ruX kw ev m x mn mi ti un) :: L):=KP.put h 9 _
theorem KP.ru10(h:KP w W ((b,ruX kw ev m fr mn mi ti un) :: L))(x:Int):KP w (W.setCell ⟨b,10,none⟩ (.int .i64 x)) ((b,ruX kw ev m fr x mi ti un) :: L):=KP.put h 10 _
theorem KP.ru11(h:KP w W ((b,ruX kw ev m fr mn mi ti un) :: L))(x:Int):KP w (W.setCell ⟨b,11,none⟩ (.int .i64 x)) ((b,ruX kw ev m fr mn x ti un) :: L):=KP.put h 11 _
theorem KP.ru12(h:KP w W ((b,ruX kw ev m fr mn mi ti un) :: L))(x:Int):KP w (W.setCell ⟨b,12,none⟩ (.int .i64 x)) ((b,ruX kw ev m fr mn mi x un) :: L):=KP.put h 12 _
theorem KP.ru13(h:KP w W ((b,ruX kw ev m fr mn mi ti un) :: L))(x:Int):KP w (W.setCell ⟨b,13,none⟩ (.int .i64 x)) ((b,ruX kw ev m fr mn mi ti x) :: L):=KP.put h 13 _
theorem KP.ruM(h:KP w W ((b,ruX kw ev m fr mn mi ti un) :: L))(q:Int->Bool):KP w (((((((W.setCell ⟨b,2,none⟩ (.bool (q 0))).setCell ⟨b,3,none⟩ (.bool (q 1))).setCell ⟨b,4,none⟩ (.bool (q 2))).setCell ⟨b,5,none⟩ (.bool (q 3))).setCell ⟨b,6,none⟩ (.bool (q 4))).setCell ⟨b,7,none⟩ (.bool (q 5))).setCell ⟨b,8,none⟩ (.bool (q 6))) ((b,ruX kw ev q fr mn mi ti un) :: L):=by
 have:=((((((KP.put h 2 (.bool (q 0))).put 3 (.bool (q 1))).put 4 (.bool (q 2))).put 5 (.bool (q 3))).put 6 (.bool (q 4))).put 7 (.bool (q 5))).put 8 (.bool (q 6));simp only[List.setIfInBounds_toArray,List.set_cons_zero,List.set_cons_succ] at this;exact this
end
theorem e7f{i:Nat}(hc:∀ j,j<n->w.cell? ⟨g,j,none⟩=some (.string (ws j)))(hz:∀ j,(ws j).size<=160)(hi:i<=10)(hr:h4y ws i k pc acc tm)(hn:k+7<n):
  Calls Tryz.prog 180 #[.slice (some ⟨g,0,none⟩) n c,.int .i64 i] w fun e w'=>e=.returned (ruR (ruW ws i k pc acc tm))/\Below w.heap.size w w':=by
 have NM:=a0b (fun j wx=>b0E (ws j) 1 7 wx (hz j) (by omega) (by omega));have DT:=a0b (fun j wx=>d4B (ws j) wx (hz j));have CK:=a0b (fun j wx=>c5y (ws j) wx (hz j));have ON:=a0b (fun j wx=>g0u (ws j) wx (hz j));have P0:=a0b ((KP.nil w).alloc (ruZ ⟨#[]⟩ 0));obtain⟨hp,h3,hk,ht⟩:=hr;have HR:Hid (∀ W,Below w.heap.size w W->∀ j,j<n->W.cell? ⟨g,j,none⟩=some (.string (ws j))):=fun W kW j hj=>a0a kW (hc j hj)
 have WR:Hid (∀ j:Nat,j<30->IntKind.i64.wrap ((j:Int))=(j:Int)):=fun j hj=>a0i (by omega) (by omega)
 have n0:(i:Int)<(n:Int):=by omega
 have n1:(i:Int)+1<(n:Int):=by omega
 have q1:(0:Int)<=(i:Int)+1:=by omega
 have v1:IntKind.i64.wrap ((i:Int)+1)=(i:Int)+1:=a0i (by omega) (by omega);have v2:IntKind.i64.wrap ((i:Int)+2)=(i:Int)+2:=a0i (by omega) (by omega);have HH:=a0b (And.intro hp (And.intro h3 (And.intro hk ht)));have hki:i+2<=k/\k<=i+3:=by omega
 clear hc hp h3 hk ht
 go_enter Tryz.func180,Tryz.ntmps180
 go_upto_region 1 with fail
 change Code.wp _ _ _ _ (w.alloc (ruZ ⟨#[]⟩ 0));generalize w.alloc (ruZ ⟨#[]⟩ 0)=X at *;have y0:=HR.out _ P0.out.bl i (by omega);have y1:=HR.out _ P0.out.bl (i+1) (by omega);have N1:=a0b (fun wx=>NM.out (i+1) wx)
 have HE:Hid (ruR (ruW ws i k pc acc tm)=.agg #[.string (ws i),.int .i64 (b4g (ws (i+1)) 1 7),.bool (isd acc 0),.bool (isd acc 1),.bool (isd acc 2),.bool (isd acc 3),.bool (isd acc 4),.bool (isd acc 5),.bool (isd acc 6),.int .i64 (g2R (ws (k+1))),.int .i64 (c5N (ws (k+3))),.int .i64 (b4g (ws (k+5)) 1 7),.int .i64 (if tm then b4g (ws (k+7)) 1 7 else 0),.int .i64 (if tm then 0 else g2R (ws (k+7)))]):=by
  rw[HH.out.1];rfl
 generalize ws i=kw at *;generalize b4g (ws (i+1)) 1 7=ev at *;generalize ws (i+1)=ew at *
 go_cut [5] from 8 to 18 (fun v5 wx=>∃ b,v5=.pointer (some ⟨b,0,none⟩)/\KP w wx [(b,ruZ kw ev),(w.heap.size,ruZ ⟨#[]⟩ 0)])
 case first =>
  have yA:∀ o,(X.alloc o).cell? ⟨g,i,none⟩=some (.string kw):=fun o=>a0a ((zr _ _).alloc (zq _) _) y0
  have yB:∀ o,(X.alloc o).cell? ⟨g,i+1,none⟩=some (.string ew):=fun o=>a0a ((zr _ _).alloc (zq _) _) y1
  go_region_with (first
   |(go_at_call 126;refine (N1.out _).mono ?_;rintro e w4 ⟨rfl,hbf⟩;have PB:=a0b (((P0.out.alloc _).later (a0q _)).later hbf);obtain⟨⟨b0,b1,b2,b3,b4,b5,b6,b7,b8,b9,b10,b11,b12,b13⟩,bf⟩:=g7z (kw:=⟨#[]⟩) (ev:=0) (m:=fun _=>false) (fr:=0) (mn:=0) (mi:=0) (ti:=0) (un:=0) (f9I hbf);have kX:Below X.heap.size X w4:=a0j ((zr _ _).alloc (zq _) _).drew hbf (by simp);have y0':=a0a kX y0)
   |(go_at_call 126;refine (N1.out _).mono ?_;rintro e w4 ⟨rfl,hbf⟩;have kX:Below X.heap.size X w4:=a0j (a0q X) hbf (zq _);have y0':=a0a kX y0;have yC:∀ o,(w4.alloc o).cell? ⟨g,i,none⟩=some (.string kw):=fun o=>a0a ((zr _ _).alloc (zq _) _) y0'))
  all_goals
   go_wp2_with fail
   go_meet
   first
    |(
     have PB:=PB.out.put14 (.string kw) (.int .i64 ev) (.bool false) (.bool false) (.bool false) (.bool false) (.bool false) (.bool false) (.bool false) (.int .i64 0) (.int .i64 0) (.int .i64 0) (.int .i64 0) (.int .i64 0)
     exact⟨_,rfl,PB⟩)
    |exact⟨_,rfl,(P0.out.later kX).alloc _⟩
 case rest =>
  obtain⟨b,rfl,hP⟩:=hcut;have HP:=a0b hP;clear hP y0 y1 P0 n0 n1 q1 v1;obtain⟨⟨c0,_⟩,_⟩:=g7z HP.out.at0
  go_upto_if 23 with fail
  go_cut [1] (fun v wx=>v=.int .i64 k/\KP w wx [(b,ruX kw ev (isd acc) 0 0 0 0 0),(w.heap.size,ruZ ⟨#[]⟩ 0)])
  case first =>
   rcases HH.out.2.2.1 with ⟨hp2,hkk,on1,on2⟩|⟨hp2,hkk,hacc⟩
   ·have HO:=a0b (And.intro on1 on2);have hw:(kw.toList==[119,101,101,107,108,121])=true:=by rw[HH.out.1,hp2];decide +kernel
    clear on1 on2;subst hkk;rw[hw];have y2:=HR.out _ HP.out.bl (i+2) (by omega);have n2:(i:Int)+2<(n:Int):=by omega
    have p2:(0:Int)<=(i:Int)+2:=by omega
    have v3:IntKind.i64.wrap ((i:Int)+3)=(i:Int)+3:=a0i (by omega) (by omega)
    go_upto_region 5 with (first|(go_at_call 129;refine (ON.out (i+2) _).mono ?_;rintro e w2 ⟨⟨acc',rfl,ha⟩,hb⟩;obtain rfl:acc'=acc:=Option.some.inj ((ha HO.out.1).symm.trans HO.out.2);replace HP:=a0b (HP.out.later hb);clear hb ha y2;simp only[a3E]))
    have BX:=a0p w2 (.cells #[.bool (isd acc' 0),.bool (isd acc' 1),.bool (isd acc' 2),.bool (isd acc' 3),.bool (isd acc' 4),.bool (isd acc' 5),.bool (isd acc' 6)] 159);have a0:=d0h BX 0 rfl;have a1:=d0h BX 1 rfl;have a2:=d0h BX 2 rfl;have a3:=d0h BX 3 rfl;have a4:=d0h BX 4 rfl;have a5:=d0h BX 5 rfl;have a6:=d0h BX 6 rfl;replace HP:=a0b (HP.out.later ((zr _ w2).alloc (zq _) (.cells #[.bool (isd acc' 0),.bool (isd acc' 1),.bool (isd acc' 2),.bool (isd acc' 3),.bool (isd acc' 4),.bool (isd acc' 5),.bool (isd acc' 6)] 159)));obtain⟨⟨_,_,c2,c3,c4,c5,c6,c7,c8,_⟩,bf⟩:=g7z HP.out.at0;clear BX c0
    go_wp2_with fail
    go_meet
    exact⟨by simp,HP.out.ruM (isd acc')⟩
   ·have hw:(kw.toList==[119,101,101,107,108,121])=false:=by
     rw[HH.out.1];rcases HH.out.2.1 with e|e|e
     ·rw[e];decide +kernel
     ·exact (hp2 e).elim
     ·rw[e];decide +kernel
    subst hkk hacc;rw[hw]
    go_wp2_with fail
    go_meet
    exact⟨by simp,HP.out⟩
  case rest =>
   obtain⟨rfl,hP⟩:=hcut;replace HP:=a0b hP;clear hP c0;have w1:IntKind.i64.wrap ((k:Int)+1)=(k:Int)+1:=a0i (by omega) (by omega);have m1:(k:Int)+1<(n:Int):=by omega
   have p1:(0:Int)<=(k:Int)+1:=by omega
   have w3:IntKind.i64.wrap ((k:Int)+3)=(k:Int)+3:=a0i (by omega) (by omega);have m3:(k:Int)+3<(n:Int):=by omega
   have p3:(0:Int)<=(k:Int)+3:=by omega
   have w5:IntKind.i64.wrap ((k:Int)+5)=(k:Int)+5:=a0i (by omega) (by omega);have m5:(k:Int)+5<(n:Int):=by omega
   have p5:(0:Int)<=(k:Int)+5:=by omega
   have w6:IntKind.i64.wrap ((k:Int)+6)=(k:Int)+6:=a0i (by omega) (by omega);have m6:(k:Int)+6<(n:Int):=by omega
   have p6:(0:Int)<=(k:Int)+6:=by omega
   have w7:IntKind.i64.wrap ((k:Int)+7)=(k:Int)+7:=a0i (by omega) (by omega);have m7:(k:Int)+7<(n:Int):=by omega
   have p7:(0:Int)<=(k:Int)+7:=by omega
   have y1:=HR.out _ HP.out.bl (k+1) (by omega)
   go_upto_region 8 with (first|(go_at_call 187;refine (DT.out (k+1) _).mono ?_;rintro e w2 ⟨rfl,hb⟩;replace HP:=a0b (HP.out.later hb);obtain⟨⟨_,_,_,_,_,_,_,_,_,cz,_⟩,bf⟩:=g7z HP.out.at0;have fz:=bf 9;clear hb bf y1))
   replace HP:=a0b (HP.out.ru9 (g2R (ws (k+1))));generalize w2.setCell ⟨b,9,none⟩ (.int .i64 (g2R (ws (k+1))))=Z9 at HP ⊢;clear cz fz;have y3:=HR.out _ HP.out.bl (k+3) (by omega)
   go_upto_region 9 with (first|(go_at_call 188;refine (CK.out (k+3) _).mono ?_;rintro e w2 ⟨rfl,hb⟩;replace HP:=a0b (HP.out.later hb);obtain⟨⟨_,_,_,_,_,_,_,_,_,_,cz,_⟩,bf⟩:=g7z HP.out.at0;have fz:=bf 10;clear hb bf y3))
   replace HP:=a0b (HP.out.ru10 (c5N (ws (k+3))));generalize w2.setCell ⟨b,10,none⟩ (.int .i64 (c5N (ws (k+3))))=Z10 at HP ⊢;clear cz fz;have y5:=HR.out _ HP.out.bl (k+5) (by omega)
   go_upto_region 10 with (first|(go_at_call 126;refine (NM.out (k+5) _).mono ?_;rintro e w2 ⟨rfl,hb⟩;replace HP:=a0b (HP.out.later hb);obtain⟨⟨_,_,_,_,_,_,_,_,_,_,_,cz,_⟩,bf⟩:=g7z HP.out.at0;have fz:=bf 11;clear hb bf y5))
   replace HP:=a0b (HP.out.ru11 (b4g (ws (k+5)) 1 7));generalize w2.setCell ⟨b,11,none⟩ (.int .i64 (b4g (ws (k+5)) 1 7))=Z11 at HP ⊢;clear cz fz;have y6:=HR.out _ HP.out.bl (k+6) (by omega);have y7:=HR.out _ HP.out.bl (k+7) (by omega);have ht:=HH.out.2.2.2
   go_upto_if 62 with fail
   go_cut [] (fun wx=>KP w wx [(b,ruX kw ev (isd acc) (g2R (ws (k+1))) (c5N (ws (k+3))) (b4g (ws (k+5)) 1 7) (if tm then b4g (ws (k+7)) 1 7 else 0) (if tm then 0 else g2R (ws (k+7)))),(w.heap.size,ruZ ⟨#[]⟩ 0)])
   case first =>
    cases tm
    ·go_wp2_with (first|(go_at_call 187;refine (DT.out (k+7) _).mono ?_;rintro e w2 ⟨rfl,hb⟩;replace HP:=a0b (HP.out.later hb);obtain⟨⟨_,_,_,_,_,_,_,_,_,_,_,_,_,cz⟩,bf⟩:=g7z HP.out.at0;have fz:=bf 13;clear hb bf y6 y7))
     go_meet
     exact HP.out.ru13 (g2R (ws (k+7)))
    ·go_wp2_with (first|(go_at_call 126;refine (NM.out (k+7) _).mono ?_;rintro e w2 ⟨rfl,hb⟩;replace HP:=a0b (HP.out.later hb);obtain⟨⟨_,_,_,_,_,_,_,_,_,_,_,_,cz,_⟩,bf⟩:=g7z HP.out.at0;have fz:=bf 12;clear hb bf y6 y7))
     go_meet
     exact HP.out.ru12 (b4g (ws (k+7)) 1 7)
   case rest =>
    have HP:=a0b hcut;clear hcut y6 y7 ht;generalize g2R (ws (k+1))=fr at *;generalize c5N (ws (k+3))=mn at *;generalize b4g (ws (k+5)) 1 7=mi at *;generalize (if tm then b4g (ws (k+7)) 1 7 else 0)=ti at *;generalize (if tm then 0 else g2R (ws (k+7)))=un at *;obtain⟨⟨c0,c1,c2,c3,c4,c5,c6,c7,c8,c9,c10,c11,c12,c13⟩,_⟩:=g7z HP.out.at0;obtain⟨⟨d0,d1,d2,d3,d4,d5,d6,d7,d8,d9,d10,d11,d12,d13⟩,df⟩:=g7z HP.out.swap.at0
    go_wp2_with fail
    have HF:=a0b (HP.out.swap.put14 (.string kw) (.int .i64 ev) (.bool (isd acc 0)) (.bool (isd acc 1)) (.bool (isd acc 2)) (.bool (isd acc 3)) (.bool (isd acc 4)) (.bool (isd acc 5)) (.bool (isd acc 6)) (.int .i64 fr) (.int .i64 mn) (.int .i64 mi) (.int .i64 ti) (.int .i64 un));clear d0 d1 d2 d3 d4 d5 d6 d7 d8 d9 d10 d11 d12 d13 c0 c1 c2 c3 c4 c5 c6 c7 c8 c9 c10 c11 c12 c13 df;generalize ((((((((((((((wc.setCell ⟨w.heap.size,0,none⟩ (.string kw)).setCell ⟨w.heap.size,1,none⟩ (.int .i64 ev)).setCell ⟨w.heap.size,2,none⟩ (.bool (isd acc 0))).setCell ⟨w.heap.size,3,none⟩ (.bool (isd acc 1))).setCell ⟨w.heap.size,4,none⟩ (.bool (isd acc 2))).setCell ⟨w.heap.size,5,none⟩ (.bool (isd acc 3))).setCell ⟨w.heap.size,6,none⟩ (.bool (isd acc 4))).setCell ⟨w.heap.size,7,none⟩ (.bool (isd acc 5))).setCell ⟨w.heap.size,8,none⟩ (.bool (isd acc 6))).setCell ⟨w.heap.size,9,none⟩ (.int .i64 fr)).setCell ⟨w.heap.size,10,none⟩ (.int .i64 mn)).setCell ⟨w.heap.size,11,none⟩ (.int .i64 mi)).setCell ⟨w.heap.size,12,none⟩ (.int .i64 ti)).setCell ⟨w.heap.size,13,none⟩ (.int .i64 un))=Y at HF ⊢;obtain⟨⟨d0,d1,d2,d3,d4,d5,d6,d7,d8,d9,d10,d11,d12,d13⟩,_⟩:=g7z (kw:=kw) (ev:=ev) (m:=isd acc) (fr:=fr) (mn:=mn) (mi:=mi) (ti:=ti) (un:=un) HF.out.at0;exact bodyPost_ret (v:=.agg #[.string kw,.int .i64 ev,.bool (isd acc 0),.bool (isd acc 1),.bool (isd acc 2),.bool (isd acc 3),.bool (isd acc 4),.bool (isd acc 5),.bool (isd acc 6),.int .i64 fr,.int .i64 mn,.int .i64 mi,.int .i64 ti,.int .i64 un]) (by simp[results,Tryz.results180,go_sem,d0,d1,d2,d3,d4,d5,d6,d7,d8,d9,d10,d11,d12,d13]) rfl ⟨by rw[HE.out],HF.out.bl⟩
def g3x(k:Int)(name:ByteArray)(u:Int)(v:Value)(t:Int):Obj:=.cells #[.int .i64 0,.int .i64 k,.string name,.int .i64 u,v,.int .i64 t] 58 (0,0)
structure g3N(w:World)(g n:Nat)(kw:ByteArray)(k long:Int):Prop where
 ho:(kw.toList==[104,111,108,100])=decide (k=2)
 wa:(kw.toList==[119,97,105,116])=decide (k=3)
 lo:(k=1/\long=0)\/((k=2\/k=3)/\5<n/\∃ t:ByteArray,t.size<=160/\w.cell? ⟨g,5,none⟩=some (.string t)/\b4g t 1 7=long)
 l0:0<=long/\long<=1048320
theorem f2m{xs:List (Ent × Nat × Nat)}(h:DD w d s xs F)(hg:0<=s.given/\s.given<=60)(hle:(s.es.length:Int)<=s.given)(hn:0<=s.now/\s.now<=1048320){k long:Int}(hk:g3N w g n kw k long)(hl:4<n)(z2:ut.size<=160)(z3:ft.size<=160)(z4:tt.size<=160)(hu:1<=b4g ut 1 7/\b4g ut 1 7<=9)(htl:0<=g2T tt/\g2T tt<=1048320)(h0:w.cell? ⟨g,0,none⟩=some (.string kw))(h1:w.cell? ⟨g,1,none⟩=some (.string name))(h2:w.cell? ⟨g,2,none⟩=some (.string ut))(h3:w.cell? ⟨g,3,none⟩=some (.string ft))(h4:w.cell? ⟨g,4,none⟩=some (.string tt)):
  Calls Tryz.prog 173 #[.pointer (some ⟨d,0,none⟩),.slice (some ⟨g,0,none⟩) n c] w (d1S w d F xs (a0g s (.enter k name (b4g ut 1 7) (g2T ft) (g2T tt) long))):=by
 have P0:=a0b ((KP.nil w).alloc a0f);have H:=a0b h;have HK:=a0b hk;have i0:(0:Int)<(n:Int):=by omega
 have i1:(1:Int)<(n:Int):=by omega
 have i2:(2:Int)<(n:Int):=by omega
 have i3:(3:Int)<(n:Int):=by omega
 have i4:(4:Int)<(n:Int):=by omega
 have y0:=a0a P0.out.bl h0;have y1:=a0a P0.out.bl h1;have y2:=a0a P0.out.bl h2;have y3:=a0a P0.out.bl h3;have y4:=a0a P0.out.bl h4;clear h hk
 go_enter Tryz.func173,Tryz.ntmps173
 go_upto_region 1 with fail
 change Code.wp _ _ _ _ (w.alloc a0f);generalize w.alloc a0f=X at *;have NM:=a0b (fun wx=>b0E ut 1 7 wx z2 (by omega) (by omega));generalize b4g ut 1 7=u at *
 go_cut [5] from 12 to 19 (fun v5 wx=>∃ b,v5=.pointer (some ⟨b,0,none⟩)/\KP w wx [(b,g3x 1 name u c7N 0),(w.heap.size,a0f)])
 case first =>
  have yA1:∀ o,(X.alloc o).cell? ⟨g,1,none⟩=some (.string name):=fun o=>a0a ((zr _ _).alloc (zq _) _) y1
  have yA2:∀ o,(X.alloc o).cell? ⟨g,2,none⟩=some (.string ut):=fun o=>a0a ((zr _ _).alloc (zq _) _) y2
  go_region_with (first
   |(go_at_call 126;refine (NM.out _).mono ?_;rintro e w4 ⟨rfl,hbf⟩;have PB:=a0b (((P0.out.alloc _).later (a0q _)).later hbf);have bz:=f9I hbf;have b0:=e0T bz;have b1:=e5p bz;have b2:=e0S bz;have b3:=e0R bz;have b4:=e0P bz;have b5:=e5o bz;have bf:=f0l bz;have kX:Below X.heap.size X w4:=a0j ((zr _ _).alloc (zq _) _).drew hbf (zq _);have y1':=a0a kX y1;clear hbf)
   |(go_at_call 126;refine (NM.out _).mono ?_;rintro e w4 ⟨rfl,hbf⟩;have kX:Below X.heap.size X w4:=a0j (a0q X) hbf (zq _);have y1':=a0a kX y1;have yB:∀ o,(w4.alloc o).cell? ⟨g,1,none⟩=some (.string name):=fun o=>a0a ((zr _ _).alloc (zq _) _) y1'))
  all_goals
   go_wp2_with fail
   go_meet
   first
    |(
     have PB:=PB.out.g0s (.int .i64 0) (.int .i64 1) (.string name) (.int .i64 u) c7N (.int .i64 0)
     exact⟨_,rfl,PB⟩)
    |exact⟨_,rfl,(P0.out.later kX).alloc _⟩
 case rest =>
  obtain⟨b,rfl,hP⟩:=hcut;have HP:=a0b hP;have y3:=a0a hP.bl h3;clear hP y0 y1 y2 y4 P0 NM
  go_wp2_with fail
  refine (d0T ft _ z3).mono ?_;rintro e w2 ⟨rfl,hb⟩;replace HP:=a0b (HP.out.later hb);have y4:=a0a HP.out.bl h4;clear hb y3
  go_wp2_with fail
  refine (d0T tt _ z4).mono ?_;rintro e w3 ⟨rfl,hb⟩;replace HP:=a0b (HP.out.later hb);clear hb y4;generalize g2T ft=fr at *;generalize g2T tt=til at *;obtain⟨T,hT⟩:∃ T,T=if k=1 then 0 else s.now+long:=⟨_,rfl⟩
  have HT:=a0b hT;clear hT;have hD:=H.out.later HP.out.bl;have n3:=hD.rd.c3;have HD:=a0b hD;clear hD;have y0:=a0a HP.out.bl h0;have b1:=HP.out.hc 1 rfl;have b5:=HP.out.hc 5 rfl;have bf:=HP.out.hf;have hl0:=HK.out.l0;have k2:=HK.out.ho;have k3:=HK.out.wa;have c0:Hid (0<=til/\til<=1048320):=htl;have HE:Hid (∃ er,er=Desk.a1M s k name u fr til long):=⟨_,rfl⟩;obtain⟨er,her⟩:=HE.out;have HER:=a0b her;clear her HE;obtain⟨NL,hNL⟩:∃ NL,NL=s.now+long:=⟨_,rfl⟩;have HNL:=a0b hNL;have ENT:Hid (er=if Desk.a0S s.ts name u≠0 then Desk.a0S s.ts name u else if til<=fr\/1048320<NL then 6 else if s.given=60 then 5 else if k=3 then (if Desk.a1Y s.es=6 then 5 else 0) else if Desk.a1e s.ts s.es name u [(fr,til)] then 0 else 8):=by rw[hNL];exact HER.out
  have HDO:Hid ((er≠0->a0g s (.enter k name u fr til long)=(s,⟨er,0,0,[],[],[],[]⟩))/\(er=0->a0g s (.enter k name u fr til long)=Desk.a2t s ⟨0,k,name,u,[(fr,til)],T⟩)):=by
   have e2:=HER.out;have e3:=HT.out;refine⟨fun h=>?_,fun h=>?_⟩
   ·simp only[a0g,<- e2,h,ne_eq,not_false_eq_true,if_true];rfl
   ·simp only[a0g,<- e2,h,ne_eq,not_true_eq_false,if_false];rw[e3];rfl
  have ENTG:Hid (er=0->s.given≠60):=by
   intro e1 e2;have:=ENT.out;rw[e1,e2] at this
   split at this
   ·omega
   ·split at this <;> simp at this
  clear hNL HER;rcases HK.out.lo with ⟨hkk,rfl⟩|⟨hkk,h5,t,ht,c5,hlo⟩
  case' inl =>
   have PK:Hid (KP w w3 [(b,g3x k name u c7N T),(w.heap.size,a0f)]):=by rw[HT.out,if_pos hkk,hkk];exact HP.out
   rw[hkk] at k2 k3;simp only[show ((1:Int)=2)=False from by simp,show ((1:Int)=3)=False from by simp,decide_false] at k2 k3;clear HP b5 n3 HD
   go_upto_region 13 with fail
   generalize w3=Z at *;clear b1 bf
  case' inr =>
   have hkn:k≠1:=by omega
   have i5:(5:Int)<(n:Int):=by omega
   have hTn:Hid (T=s.now+long):=by show _=_;rw[HT.out,if_neg hkn]
   have NM:=a0b (fun wx=>b0E t 1 7 wx ht (by omega) (by omega));rw[hlo] at NM;have PK:=a0b (HP.out.put 1 (.int .i64 k));have c5':=a0a PK.out.bl c5;clear c5 HP HD n3 b5 hlo;rcases hkk with hkk|hkk
   all_goals
    rw[hkk] at k2 k3 PK c5';simp only[show ((3:Int)=2)=False from by simp,show ((2:Int)=3)=False from by simp,decide_false,decide_true] at k2 k3
    go_upto_region 11 with fail
    generalize w3.setCell _ _=Z0 at *
    go_wp2_with fail
    refine (NM.out _).mono ?_;rintro e w5 ⟨rfl,hb⟩;replace PK:=a0b (PK.out.later hb);have n3:=(H.out.later PK.out.bl).rd.c3;have b5:=PK.out.hc 5 rfl;have bf:=PK.out.hf;clear hb
    go_upto_region 13 with fail
    replace PK:Hid (KP w (w5.setCell ⟨b,5,none⟩ (.int .i64 (s.now+long))) [(b,g3x k name u c7N T),(w.heap.size,a0f)]):=by rw[hkk,hTn.out];exact PK.out.put 5 _
    clear b5 bf n3 b1;generalize w5.setCell _ _=Z at *
  all_goals
   clear hkk;obtain⟨vN,hvN⟩:∃ v,v=c7N:=⟨_,rfl⟩;have ON:Hid (Z.ownsRow Z.heap.size 60 2 vN ([]:List (Int × Int)).length (([]:List (Int × Int)).flatMap d0k)/\vN.ownBlock=none):=by rw[hvN];exact⟨World.ownsRow_nil Z Z.heap.size _ _,rfl⟩
   rw[<- hvN] at PK;clear hvN;have b4:=PK.out.hc 4 rfl;have bf:=PK.out.hf 4;have hZ:=PK.out.bl.size;have hbZ:b<Z.heap.size:=PK.out.lt (List.mem_cons_self ..);have hQZ:w.heap.size<Z.heap.size:=PK.out.lt (q:=(w.heap.size,a0f)) (by simp)
   go_wp2_with (first|(at_builtin;refine g2l rfl _ _ rfl ON.out.1 fr til rfl rfl (by simp) (zq _) ?_;intro gs cs w6 ho6 ko6;have kb6:Below Z.heap.size Z w6:=(by rw[ON.out.2] at ko6;exact Off.blw ko6);have b4:=a0a kb6 b4;have bf:=(a0b ((PK.out.later kb6).hf 4)).out;have b2:=(PK.out.later kb6).hc 2 rfl;have b3:=(PK.out.later kb6).hc 3 rfl))
   replace PK:Hid (KP w (w6.setCell ⟨b,4,none⟩ (.slice (some ⟨gs,0,none⟩) 1 cs)) [(b,g3x k name u (.slice (some ⟨gs,0,none⟩) 1 cs) T),(w.heap.size,a0f)]):=(PK.out.later kb6).put 4 _;have hgs:Z.heap.size<=gs:=d0G ho6 rfl;have hgs2:gs<w6.heap.size:=c7O ho6 rfl;have RS:Hid (RSL (w6.setCell ⟨b,4,none⟩ (.slice (some ⟨gs,0,none⟩) 1 cs)) gs [(fr,til)]):=(e9c ho6).2.off (Off.set0 ..) (by simp;omega);have hz6:(w6.setCell ⟨b,4,none⟩ (.slice (some ⟨gs,0,none⟩) 1 cs)).heap.size=w6.heap.size:=by simp
   clear b4 bf ho6 ko6 kb6 b2 b3;rw[<- hz6] at hgs2;clear hz6;generalize w6.setCell ⟨b,4,none⟩ _=Y at *;have DY:=a0b (H.out.later PK.out.bl);obtain⟨_,b1,b2,b3,b4,_⟩:=PK.out.six;have n2:=DY.out.rd.c2;have n3:=DY.out.rd.c3;have AK:=a0b (DY.out.asked name u);have WA:=a0b DY.out.waiting;have FT:=a0b (DY.out.fits (u:=u) (cb:=cs) name RS.out (by simp) (by omega) hu.2);refine AK.out.mono ?_;rintro e w7 ⟨rfl,rfl⟩;clear AK;generalize Desk.a0S s.ts name u=an at *;generalize Desk.a1Y s.es=wn at *;generalize Desk.a1e s.ts s.es name u [(fr,til)]=fb at *
   go_upto_block 1 with fail
   go_cut [9,10,11] from 65 to 104 (fun v9 _ _ wx=>v9=.int .i64 er/\KP w wx [(b,g3x k name u (.slice (some ⟨gs,0,none⟩) 1 cs) T),(w.heap.size,a0f)]/\RSL wx gs [(fr,til)]/\gs<wx.heap.size)
   case first =>
    by_cases q1:an=0
    ·subst q1
     by_cases q2:til<=fr
     ·have e1:er=6:=by rw[ENT.out];simp[q2]
      go_wp2_with fail
      go_meet
      exact⟨by rw[e1],PK.out,RS.out,hgs2⟩
     ·by_cases q3:1048320<NL
      ·have e1:er=6:=by rw[ENT.out];simp[q3]
       rw[HNL.out] at q3
       try simp only[Int.add_zero] at q3
       try (exfalso;omega)
       all_goals
        go_wp2_with fail
        go_meet
        exact⟨by rw[e1],PK.out,RS.out,hgs2⟩
      ·rw[if_neg (by simp),if_neg (by simp only[not_or];exact⟨q2,q3⟩)] at ENT;rw[HNL.out] at q3
       try simp only[Int.add_zero] at q3
       by_cases q4:s.given=60
       ·have e1:er=5:=by rw[ENT.out,if_pos q4]
        have q4':(s.given==60)=true:=by simpa using q4
        go_wp2_with fail
        go_meet
        exact⟨by rw[e1],PK.out,RS.out,hgs2⟩
       ·rw[if_neg q4] at ENT;have q4':(s.given==60)=false:=by simpa using q4
        by_cases q5:k=3
        ·skip
         all_goals
          rw[if_pos q5] at ENT;have q5':(k==3)=true:=by simpa using q5
          by_cases q6:wn=6
          ·have e1:er=5:=by rw[ENT.out,if_pos q6]
           have q6':(wn==6)=true:=by simpa using q6
           go_wp2_with fail
           refine WA.out.mono ?_;rintro e w8 ⟨rfl,rfl⟩
           go_wp2_with fail
           go_meet
           exact⟨by rw[e1],PK.out,RS.out,hgs2⟩
          ·have e1:er=0:=by rw[ENT.out,if_neg q6]
           have q6':(wn==6)=false:=by simpa using q6
           go_wp2_with fail
           refine WA.out.mono ?_;rintro e w8 ⟨rfl,rfl⟩
           go_wp2_with fail
           go_meet
           exact⟨by rw[e1],PK.out,RS.out,hgs2⟩
        ·skip
         all_goals
          rw[if_neg q5] at ENT;have q5':(k==3)=false:=by simpa using q5
          go_wp2_with fail
          refine FT.out.mono ?_;rintro e w8 ⟨rfl,hb8⟩;have L8:=a0b (And.intro (PK.out.later hb8) (And.intro (RS.out.later hb8) (zL hgs2 hb8.size)));clear hb8
          cases fb
          ·have e1:er=8:=by rw[ENT.out];rfl
           go_wp2_with fail
           go_meet
           exact⟨by rw[e1],L8.out⟩
          ·have e1:er=0:=by rw[ENT.out];rfl
           go_wp2_with fail
           go_meet
           exact⟨by rw[e1],L8.out⟩
    ·have e1:er=an:=by rw[ENT.out,if_pos q1]
     have q1':(an != 0)=true:=by simpa using q1
     go_wp2_with fail
     go_meet
     exact⟨by rw[e1],PK.out,RS.out,hgs2⟩
   case rest =>
    obtain⟨rfl,hP,hR,hg3⟩:=hcut;have DC:=a0b (H.out.later hP.bl);have Q1:=a0b (Q7.of (hP.kb (w.heap.size,a0f) (by simp)));have HP:=a0b (And.intro hP (And.intro hR hg3));obtain⟨x0,x1,x2,x3,x4,x5⟩:=hP.six;clear hP hR hg3 b1 b2 b3 b4 n2 n3 WA FT ENT
    by_cases he:er=0
    ·subst he;have E9:=a0b (HDO.out.2 rfl)
     have hg59:Hid (s.es.length<60):=by
      show _<_;have:=ENTG.out rfl;omega
     have JN:Hid (Calls Tryz.prog 232 #[.pointer (some ⟨d,0,none⟩),.agg #[.int .i64 0,.int .i64 k,.string name,.int .i64 u,.slice (some ⟨gs,0,none⟩) 1 cs,.int .i64 T]] wc fun e w'=>e=.returned (e3T 0 (s.given+1))/\g3V wc d s.ts (xs++[(⟨s.given+1,k,name,u,[(fr,til)],T⟩,gs,cs)]) (s.given+1) s.now F w'):=(f5s d s.ts xs s.given s.now F (⟨0,k,name,u,[(fr,til)],T⟩,gs,cs) wc DC.out.rd HP.out.2.1 (fun e=>by have:=H.out.lt gs e;omega) HP.out.2.2 DC.out.lt (by have:=H.out.len;have:=H.out.el;omega) hg.1 (by omega))
     go_wp2_with fail
     refine JN.out.mono ?_;rintro e w8 ⟨rfl,hj⟩;obtain⟨F',hJ,hF',hO⟩:=DC.out.a5d (x:=(⟨0,k,name,u,[(fr,til)],T⟩,gs,cs)) ⟨hu.1,hu.2,by simp,by simp,by simp;omega⟩ hg59.out hj;have hQF:w.heap.size ∉ F:=fun e=>by have:=H.out.lt _ e;omega
     have hQ8:=hO.block w.heap.size (World.block_lt_of_cell? _ _ Q1.out.q0) hQF;have hwc:=HP.out.1.bl.size;have hQc:w.heap.size<wc.heap.size:=World.block_lt_of_cell? _ _ Q1.out.q0
     have HF:Hid (d1S w d F xs (Desk.a2t s ⟨0,k,name,u,[(fr,til)],T⟩) (.returned (a0s 0 0 (s.given+1) c7N c7N c7N c7N)) (a2w w8 w.heap.size (.int .i64 0) (.int .i64 0) (.int .i64 (s.given+1)) c7N c7N c7N c7N)):=by
      refine hJ.put7 (fun x hx=>(hF' x hx).imp id (fun e=>by omega)) ((Off.of_below HP.out.1.bl).trans hO) (zq _) (fun e=>?_) (fun x hx e=>?_) (fun x hx=>?_) 0 (s.given+1) _ _ _ _ _ _ _
      ·rcases hF' _ e with e|e
       ·exact hQF e
       ·omega
      ·rcases List.mem_append.1 hx with hx|hx
       ·have:=(H.out.rd.sp x hx).2.2;omega
       ·simp only[List.mem_singleton] at hx;subst hx;simp only at e;omega
      ·rcases List.mem_append.1 hx with hx|hx
       ·exact .inl ⟨x,hx,rfl⟩
       ·simp only[List.mem_singleton] at hx;subst hx;exact .inr (by simp only;omega)
     obtain⟨q0,q1,q2,q3,q4,q5,q6,fq⟩:=Q1.out.later hQ8;simp only[e3T];clear hJ hF' hO hj JN
     go_wp2_with fail
     exact d0O Tryz.results173 ⟨q0,q1,q2,q3,q4,q5,q6,fq⟩ (by rw[E9.out];exact HF.out)
    ·have he':(er != 0)=true:=by simpa using he
     have HF:Hid (d1S w d F xs (s,⟨er,0,0,[],[],[],[]⟩) (.returned (a0s er 0 0 c7N c7N c7N c7N)) (a2w wc w.heap.size (.int .i64 er) (.int .i64 0) (.int .i64 0) c7N c7N c7N c7N)):=H.out.said HP.out.1.bl (zq _) er 0 (.int .i64 er) (.int .i64 0) (.int .i64 0) c7N c7N c7N c7N;have E9:=a0b (HDO.out.1 he);obtain⟨q0,q1,q2,q3,q4,q5,q6,fq⟩:=Q1.out;clear he
     go_wp2_with fail
     exact d0O Tryz.results173 ⟨q0,q1,q2,q3,q4,q5,q6,fq⟩ (by rw[E9.out];exact HF.out)
theorem KP.off{wy:World}{L:List (Nat × Obj)}(h:KP w wx L)(k:Off G wx wy)(h1:∀ x∈G,w.heap.size<=x)(h2:∀ q∈L,q.1 ∉ G):KP w wy L :=
 ⟨h.bl.trans (g9F k h.bl.size h1),fun q hq=>(k.block _ (h.lt hq) (h2 q hq)).trans (h.kb q hq),h.lo,h.nd⟩
theorem KP.tail{q:Nat × Obj}{L:List (Nat × Obj)}(h:KP w wx (q :: L)):KP w wx L:=h.less (List.sublist_cons_self ..)
theorem DD.joinAns{wc w8:World}{xs:List (Ent × Nat × Nat)}(H:DD w d s xs F){e:Ent}{gs cs:Nat}(hb:Below w.heap.size w wc)(hgs:w.heap.size<gs)(hQ:w.heap.size<wc.heap.size)(hx:EB e)(hl:s.es.length<60)(hj:g3V wc d s.ts (xs++[({ e with id:=s.given+1 },gs,cs)]) (s.given+1) s.now F w8)(a b c f g i j:Value):
  d1S w d F xs (Desk.a2t s e) (.returned (a0s 0 0 (s.given+1) c7N c7N c7N c7N)) (a2w w8 w.heap.size a b c f g i j)/\w8.heap[w.heap.size]?=wc.heap[w.heap.size]?:=by
 obtain⟨F',hJ,hF',hO⟩:=(H.later hb).a5d (x:=(e,gs,cs)) hx hl hj;have hQF:w.heap.size ∉ F:=fun e=>by have:=H.lt _ e;omega
 refine⟨hJ.put7 (fun x hx=>(hF' x hx).imp id (fun e=>by omega)) ((Off.of_below hb).trans hO) (zq _) (fun e=>?_) (fun x hx e=>?_) (fun x hx=>?_) 0 (s.given+1) _ _ _ _ _ _ _,hO.block _ hQ hQF⟩
 ·rcases hF' _ e with e|e
  ·exact hQF e
  ·omega
 ·rcases List.mem_append.1 hx with hx|hx
  ·have:=(H.rd.sp x hx).2.2;omega
  ·rw[List.mem_singleton.1 hx] at e;simp only at e;omega
 ·rcases List.mem_append.1 hx with hx|hx
  ·exact .inl ⟨x,hx,rfl⟩
  ·rw[List.mem_singleton.1 hx];exact .inr (by simp only;omega)
theorem f9b{xs:List (Ent × Nat × Nat)}(h:DD w d s xs F)(hg:0<=s.given/\s.given<=60)(hle:(s.es.length:Int)<=s.given)(hc:∀ j,j<n->w.cell? ⟨g,j,none⟩=some (.string (ws j)))(hz:∀ j,(ws j).size<=160)(hr:h4y ws 3 k pc acc tm)(hn:k+7<n)(hu:1<=b4g (ws 2) 1 7/\b4g (ws 2) 1 7<=9)(hf:Rd.a6s (ruW ws 3 k pc acc tm)):
  Calls Tryz.prog 174 #[.pointer (some ⟨d,0,none⟩),.slice (some ⟨g,0,none⟩) n c] w (d1S w d F xs (a0g s (.series (ws 1) (b4g (ws 2) 1 7) (ruW ws 3 k pc acc tm)))):=by
 have P0:=a0b ((KP.nil w).alloc a0f);have H:=a0b h;have RL:Hid (∀ W,Below w.heap.size w W->Calls Tryz.prog 180 #[.slice (some ⟨g,0,none⟩) n c,.int .i64 3] W fun e w'=>e=.returned (ruR (ruW ws 3 k pc acc tm))/\Below W.heap.size W w'):=fun W kW=>e7f (i:=3) (fun j hj=>a0a kW (hc j hj)) hz (by omega) hr hn
 have DY:=a0b (fun W=>f6Q _ hf W);have hk:3+2<=k:=by rcases hr.hk with e|e <;> omega
 have i1:(1:Int)<(n:Int):=by omega
 have i2:(2:Int)<(n:Int):=by omega
 have y1:=a0a P0.out.bl (hc 1 (by omega));have y2:=a0a P0.out.bl (hc 2 (by omega));have NM:=a0b (fun wx=>b0E (ws 2) 1 7 wx (hz 2) (by omega) (by omega));generalize b4g (ws 2) 1 7=u at *;generalize ws 1=name at *;generalize ws 2=ut at *;generalize ruW ws 3 k pc acc tm=q at *;simp only[ruR,ruL] at RL DY;have ES:=a0b (And.intro hf (Rd.a5K hf).2);clear h hc hz hr hf hk hn
 go_enter Tryz.func174,Tryz.ntmps174
 go_upto_region 1 with fail
 change Code.wp _ _ _ _ (w.alloc a0f);generalize w.alloc a0f=X at *
 go_cut [5] from 12 to 19 (fun v5 wx=>∃ b,v5=.pointer (some ⟨b,0,none⟩)/\KP w wx [(b,g3x 1 name u c7N 0),(w.heap.size,a0f)])
 case first =>
  have yA1:∀ o,(X.alloc o).cell? ⟨g,1,none⟩=some (.string name):=fun o=>a0a ((zr _ _).alloc (zq _) _) y1
  have yA2:∀ o,(X.alloc o).cell? ⟨g,2,none⟩=some (.string ut):=fun o=>a0a ((zr _ _).alloc (zq _) _) y2
  go_region_with (first
   |(go_at_call 126;refine (NM.out _).mono ?_;rintro e w4 ⟨rfl,hbf⟩;have PB:=a0b (((P0.out.alloc _).later (a0q _)).later hbf);have bz:=f9I hbf;have b0:=e0T bz;have b1:=e5p bz;have b2:=e0S bz;have b3:=e0R bz;have b4:=e0P bz;have b5:=e5o bz;have bf:=f0l bz;have kX:Below X.heap.size X w4:=a0j ((zr _ _).alloc (zq _) _).drew hbf (zq _);have y1':=a0a kX y1;clear hbf)
   |(go_at_call 126;refine (NM.out _).mono ?_;rintro e w4 ⟨rfl,hbf⟩;have kX:Below X.heap.size X w4:=a0j (a0q X) hbf (zq _);have y1':=a0a kX y1;have yB:∀ o,(w4.alloc o).cell? ⟨g,1,none⟩=some (.string name):=fun o=>a0a ((zr _ _).alloc (zq _) _) y1'))
  all_goals
   go_wp2_with fail
   go_meet
   first
    |(
     have PB:=PB.out.g0s (.int .i64 0) (.int .i64 1) (.string name) (.int .i64 u) c7N (.int .i64 0)
     exact⟨_,rfl,PB⟩)
    |exact⟨_,rfl,(P0.out.later kX).alloc _⟩
 case rest =>
  obtain⟨b,rfl,hP⟩:=hcut;have HP:=a0b hP;clear hP y1 y2 P0 NM;obtain⟨_,_,b2,b3,_,_⟩:=HP.out.six;have AK:=a0b ((H.out.later HP.out.bl).asked name u);have SD:Hid (∀ er Z,KP w Z [(w.heap.size,a0f)]->a0g s (.series name u q)=(s,Rep.error er)->d1S w d F xs (a0g s (.series name u q)) (.returned (a0s er 0 0 c7N c7N c7N c7N)) (a2w Z w.heap.size (.int .i64 er) (.int .i64 0) (.int .i64 0) c7N c7N c7N c7N)/\Q7 Z w.heap.size):=fun er Z k e=>⟨by rw[e];exact H.out.said k.bl (zq _) er 0 _ _ _ _ _ _ _,Q7.of k.at0⟩
  have D1:Hid (Desk.a0S s.ts name u≠0->a0g s (.series name u q)=(s,Rep.error (Desk.a0S s.ts name u))):=fun e=>by simp only[a0g,Desk.a2l,if_pos e]
  have D2:Hid (Desk.a0S s.ts name u=0->Rd.a6W q≠0->a0g s (.series name u q)=(s,Rep.error (Rd.a6W q))):=fun e e2=>by simp only[a0g,Desk.a2l,e,ne_eq,not_true_eq_false,if_false,e2,not_false_eq_true,if_true]
  have D3:Hid (Desk.a0S s.ts name u=0->Rd.a6W q=0->s.given=60->a0g s (.series name u q)=(s,Rep.error 5)):=fun e e2 e3=>by simp[a0g,Desk.a2l,e,e2,e3]
  have D4:Hid (Desk.a0S s.ts name u=0->Rd.a6W q=0->s.given≠60->a0g s (.series name u q)=if Desk.a1e s.ts s.es name u (Rd.a2M q (Rd.a0E q)) then Desk.a2t s ⟨0,1,name,u,Rd.a2M q (Rd.a0E q),0⟩ else (s,Rep.error 8)):=fun e e2 e3=>by
   simp only[a0g,Desk.a2l,e,e2,e3,ne_eq,not_true_eq_false,if_false]
   cases Desk.a1e s.ts s.es name u (Rd.a2M q (Rd.a0E q)) <;> simp
  go_wp2_with fail
  refine AK.out.mono ?_;rintro e w7 ⟨rfl,rfl⟩;clear AK;generalize Desk.a0S s.ts name u=an at *
  by_cases q1:an=0
  case neg =>
   have q1':(an != 0)=true:=by simpa using q1
   have E:=a0b (SD.out an _ HP.out.tail (D1.out q1));clear q1;obtain⟨q0,q1,q2,q3,q4,q5,q6,fq⟩:=E.out.2
   go_wp2_with fail
   exact d0O Tryz.results174 ⟨q0,q1,q2,q3,q4,q5,q6,fq⟩ E.out.1
  subst q1;clear D1 b2 b3
  go_wp2_with fail
  refine (RL.out _ HP.out.bl).mono ?_;rintro e w2 ⟨rfl,hb⟩;replace HP:=a0b ((HP.out.later hb).alloc (ruB q));clear hb RL
  go_upto_region 6 with fail
  change Code.wp _ _ _ _ (w2.alloc (ruB q));obtain⟨rb,hrb⟩:∃ rb,rb=w2.heap.size:=⟨_,rfl⟩;rw[<- hrb] at HP ⊢;generalize w2.alloc (ruB q)=W at *;obtain⟨⟨c0,c1,c9,c10,c11,c12,c13⟩,cJ⟩:=ruC HP.out.at0;have j0:=cJ 0 (by omega);have j1:=cJ 1 (by omega);have j2:=cJ 2 (by omega);have j3:=cJ 3 (by omega);have j4:=cJ 4 (by omega);have j5:=cJ 5 (by omega);have j6:=cJ 6 (by omega);have hbW:b<W.heap.size:=HP.out.lt (q:=(b,g3x 1 name u c7N 0)) (by simp);clear cJ hrb
  go_wp2_with fail
  refine (DY.out _).mono ?_;rintro e w3 ⟨hb3,hd⟩;replace HP:=a0b (HP.out.later hb3);clear c0 c1 c9 c10 c11 c12 c13 j0 j1 j2 j3 j4 j5 j6 DY;rcases hd with ⟨he,v,rfl,ho⟩|⟨he,rfl⟩
  case inr =>
   have E:=a0b (SD.out (Rd.a6W q) _ HP.out.tail.tail (D2.out (by simp) he));generalize Rd.a6W q=er at *;have he':(er != 0)=true:=by simpa using he
   obtain⟨q0,q1,q2,q3,q4,q5,q6,fq⟩:=E.out.2;clear he
   go_wp2_with fail
   exact d0O Tryz.results174 ⟨q0,q1,q2,q3,q4,q5,q6,fq⟩ E.out.1
  obtain⟨_,hne,hl40,hlate⟩:=ES.out.2 he;have HO:=a0b ho;have LT:=a0b hlate;have HD:=a0b he;have MM:=a0b (fun i (hi:i<(Rd.a0E q).length)=>And.intro (Rd.a4x ES.out.1 (zg hi)) (And.intro ES.out.1.m0 (And.intro ES.out.1.m1 (And.intro ES.out.1.i1 ES.out.1.i2))));obtain⟨va,vc,rfl⟩:=c9y ho;have LB:=a0b (And.intro (HP.out.lo (b,g3x 1 name u c7N 0) (by simp)) (And.intro (HP.out.lt (q:=(b,g3x 1 name u c7N 0)) (by simp)) (And.intro (HP.out.lt (q:=(rb,ruB q)) (by simp)) (And.intro (HP.out.lt (q:=(w.heap.size,a0f)) (by simp)) HP.out.bl.size))))
  have SPO:Hid (∀ x∈Rd.a2M q (Rd.a0E q),0<=x.2/\x.2<=2000000):=fun x hx=>by
   obtain⟨y,hy,rfl⟩:=List.mem_map.1 hx;have:=Rd.a4x ES.out.1 hy;have:=hlate y hy;have:=ES.out.1.f0;have:=ES.out.1.m0;have:=ES.out.1.i1;simp only;omega
  clear ho hlate he hb3;have hlen0:0<(Rd.a0E q).length:=List.length_pos_iff.2 hne
  go_wp2_with fail
  generalize w3=V at *;obtain⟨V0,hV0⟩:∃ V0,V0=V:=⟨_,rfl⟩;subst hV0
  go_loopw [9,10] (fun vi _ wr=>∃ (i:Nat) (vs:Value),i<=(Rd.a0E q).length/\vi=.int .i64 i/\KP w wr [(b,g3x 1 name u vs 0),(rb,ruB q),(w.heap.size,a0f)]/\wr.ownsRow V0.heap.size 60 2 vs (Rd.a2M q ((Rd.a0E q).take i)).length ((Rd.a2M q ((Rd.a0E q).take i)).flatMap d0k)/\Off [b] V0 wr) (fun vi _ _=>(Rd.a0E q).length-(intOf vi).toNat)
  case atStart=>exact⟨0,c7N,Nat.zero_le _,rfl,HP.out.swap,World.ownsRow_nil _ _ _ _,Off.refl _ _⟩
  case round =>
   obtain⟨i,vs,hi,rfl,hP,hown,hoff⟩:=hrel;have HR:=a0b (And.intro hP (And.intro hown hoff));clear hP hown hoff
   by_cases hlt:i<(Rd.a0E q).length
   ·have hlt':(i:Int)<((Rd.a0E q).length:Int):=by omega
    obtain⟨g2,cap,e,y⟩:=e4k HO.out (k:=i) (u:=.int .i64 (Rd.a0E q)[i]) (by rw[List.getElem?_map,List.getElem?_eq_getElem hlt];rfl);simp only[Value.slice.injEq,true_and] at e;obtain⟨rfl,rfl⟩:=e;have hg2:g2 ∉ [b]:=by have:=d0G HO.out (k:=g2) rfl;simp;omega
    have y':=HR.out.2.2.cell hg2 y;obtain⟨_,_,_,_,b4,_⟩:=HR.out.1.six;obtain⟨⟨_,_,_,c10,c11,_⟩,_⟩:=ruC (HR.out.1.kb (rb,ruB q) (by simp));obtain⟨⟨m1,m2⟩,m3,m4,m5,m6⟩:=MM.out i hlt;have hf0:=ES.out.1.f0
    have HT:Hid (Rd.a2M q ((Rd.a0E q).take (i+1))=Rd.a2M q ((Rd.a0E q).take i)++[(1440*(Rd.a0E q)[i]+q.mn,1440*(Rd.a0E q)[i]+q.mn+q.mi)]):=by
     show _=_;simp only[Rd.a2M];rw[List.take_succ_eq_append_getElem hlt,List.map_append];simp only[List.map_cons,List.map_nil,Int.mul_comm 1440]
    have hil:(Rd.a2M q ((Rd.a0E q).take i)).length<=1000000:=by simp[Rd.a2M];omega
    clear y;generalize (Rd.a0E q)[i]=x at *;have w1:IntKind.i64.wrap (1440*x)=1440*x:=a0i (by omega) (by omega);have w2:IntKind.i64.wrap (1440*x+q.mn)=1440*x+q.mn:=a0i (by omega) (by omega);have w3:IntKind.i64.wrap (1440*x+q.mn+q.mi)=1440*x+q.mn+q.mi:=a0i (by omega) (by omega)
    go_upto_region 12 with fail
    go_quiet (fail)
    go_upto_region 13 with fail
    generalize hWd:World.drewN wr _=Wd at *
    have kd:Hid (Below wr.heap.size wr Wd):=by
     rw[<- hWd];exact d7M (zr _ _) _
    clear hWd;have b4':=a0a kd.out b4;have c11':=a0a kd.out c11;have NB:Hid (∀ z∈vs.ownBlock.toList,V0.heap.size<=z):=fun z hz=>d0G HR.out.2.1 (Option.mem_toList.1 hz)
    have hbN:b ∉ vs.ownBlock.toList:=fun e=>by have:=NB.out b e;have:=LB.out.2.1;omega
    have PD:=a0b (HR.out.1.later kd.out);have OD:=a0b (a1g HR.out.2.1 kd.out);have hVd:V0.heap.size<=Wd.heap.size:=Nat.le_trans HR.out.2.2.size kd.out.size;clear b4 c10 c11
    go_wp2_with (first|(at_builtin;refine g2l rfl _ _ rfl OD.out (1440*x+q.mn) (1440*x+q.mn+q.mi) rfl rfl hil hVd ?_;intro gs cs w6 ho6 ko6;have b4:=ko6.cell hbN b4';have bf:=(ko6.frozen (o:=4) hbN (PD.out.lt (q:=(b,g3x 1 name u vs 0)) (by simp))).trans (PD.out.hf 4)))
    have P6:=a0b (PD.out.off ko6 (fun z hz=>Nat.le_trans LB.out.2.2.2.2 (NB.out z hz)) (fun z hz e=>by
     have:=NB.out _ e;have:=LB.out;simp only[List.mem_cons,List.not_mem_nil,or_false] at hz
     rcases hz with rfl|rfl|rfl <;> simp only at this <;> omega))
    have hgs:V0.heap.size<=gs:=d0G ho6 rfl;refine⟨⟨i+1,_,by omega,by go_num,P6.out.put 4 _,?_,?_⟩,by simp[intOf];omega⟩
    ·rw[HT.out,List.length_append]
     exact a1i ho6 (Off.set0 ..) (fun z hz e=>by
      simp only[Value.ownBlock,Option.some.injEq] at hz;simp only[List.mem_singleton] at e;have:=LB.out.2.1
      omega)
    ·exact ((HR.out.2.2.trans' (Off.of_below kd.out) (fun z hz=>.inl hz)).trans' ko6 (fun z hz=>.inr (NB.out z hz))).setCell (.inl (by simp)) _ _
   ·have hie:i=(Rd.a0E q).length:=by omega
    subst hie;have hlt':¬ (((Rd.a0E q).length:Nat):Int)<((Rd.a0E q).length:Int):=by omega
    have hL:(Rd.a2M q (Rd.a0E q)).length=(Rd.a0E q).length:=by simp[Rd.a2M]
    rw[List.take_length] at HR;have D4':=a0b (D4.out (by simp) HD.out);have HSL:Hid ((Rd.a2M q (Rd.a0E q)).length<=40/\Rd.a2M q (Rd.a0E q)≠[]):=⟨by omega,fun e=>by rw[e] at hL;simp at hL;omega⟩;generalize Rd.a2M q (Rd.a0E q)=L at *;rcases HR.out.2.1.2 with ⟨_,h0⟩|⟨gs,cs,_,rfl,_⟩
    ·omega
    clear hL;obtain⟨b0,b1,b2,b3,b4,b5⟩:=HR.out.1.six;have DW:=a0b (H.out.later HR.out.1.bl);have n2:=DW.out.rd.c2;have RS:=a0b (e9c HR.out.2.1).2;have hgs:V0.heap.size<=gs:=d0G HR.out.2.1 rfl;have hgs2:gs<wr.heap.size:=c7O HR.out.2.1 rfl
    by_cases q4:s.given=60
    ·have q4':(s.given==60)=true:=by simpa using q4
     have E:=a0b (SD.out 5 _ HR.out.1.tail.tail (D3.out (by simp) HD.out q4));obtain⟨q0,q1,q2,q3,q4,q5,q6,fq⟩:=E.out.2
     go_wp2_with fail
     exact d0O Tryz.results174 ⟨q0,q1,q2,q3,q4,q5,q6,fq⟩ E.out.1
    ·have q4':(s.given==60)=false:=by simpa using q4
     have FT:=a0b (DW.out.fits (u:=u) (cb:=cs) name RS.out (by have:=HSL.out.1;omega) (by omega) hu.2);have DF:=a0b (D4'.out q4);generalize Desk.a1e s.ts s.es name u L=fb at *
     go_wp2_with fail
     refine FT.out.mono ?_;rintro e w8 ⟨rfl,hb8⟩;have K8:=a0b (HR.out.1.later hb8);have R8:=a0b (And.intro (RS.out.later hb8) (And.intro (zL hgs2 hb8.size) hgs));clear hb8
     cases fb
     ·have E:=a0b (SD.out 8 _ K8.out.tail.tail (DF.out.trans (by simp)));obtain⟨q0,q1,q2,q3,q4,q5,q6,fq⟩:=E.out.2
      go_wp2_with fail
      exact d0O Tryz.results174 ⟨q0,q1,q2,q3,q4,q5,q6,fq⟩ E.out.1
     ·have hg59:Hid (s.es.length<60):=by
       show _<_;omega
      have DC:=a0b (H.out.later K8.out.bl);have JN:Hid (Calls Tryz.prog 232 #[.pointer (some ⟨d,0,none⟩),.agg #[.int .i64 0,.int .i64 1,.string name,.int .i64 u,.slice (some ⟨gs,0,none⟩) L.length cs,.int .i64 0]] w8 fun e w'=>e=.returned (e3T 0 (s.given+1))/\g3V w8 d s.ts (xs++[(⟨s.given+1,1,name,u,L,0⟩,gs,cs)]) (s.given+1) s.now F w'):=(f5s d s.ts xs s.given s.now F (⟨0,1,name,u,L,0⟩,gs,cs) w8 DC.out.rd R8.out.1 (fun e=>by have:=H.out.lt gs e;have:=LB.out.2.2.2.2;omega) R8.out.2.1 DC.out.lt (by have:=H.out.len;have:=H.out.el;omega) hg.1 (by omega));obtain⟨x0,x1,x2,x3,x4,x5⟩:=K8.out.six;have Q1:=a0b (Q7.of (K8.out.kb (w.heap.size,a0f) (by simp)));clear b0 b1 b2 b3 b4 b5 n2
      go_wp2_with fail
      refine JN.out.mono ?_;rintro e w9 ⟨rfl,hj⟩;have JA:=a0b (H.out.joinAns (e:=⟨0,1,name,u,L,0⟩) K8.out.bl (by have:=LB.out.2.2.2.1;omega) (K8.out.lt (q:=(w.heap.size,a0f)) (by simp)) ⟨hu.1,hu.2,HSL.out.1,HSL.out.2,SPO.out⟩ hg59.out hj (.int .i64 0) (.int .i64 0) (.int .i64 (s.given+1)) c7N c7N c7N c7N);obtain⟨q0,q1,q2,q3,q4,q5,q6,fq⟩:=Q1.out.later JA.out.2;simp only[e3T];clear hj JN x0 x1 x2 x3 x4 x5
      go_wp2_with fail
      exact d0O Tryz.results174 ⟨q0,q1,q2,q3,q4,q5,q6,fq⟩ (by rw[DF.out];exact JA.out.1)
theorem DD.days{xs:List (Ent × Nat × Nat)}(h:DD w d s xs F)(kZ:Below w.heap.size w Z){B:Nat}(ho:Z.ownsRow B 3 1 v l.length (l.map (Value.int .i64)))(hQ:w.heap.size<=Q)(hB:Q<B)(n:Int)(a b c e f g i:Value):
  d1S w d F xs (s,{ Rep.num n with days:=l }) (.returned (a0s 0 0 n c7N v c7N c7N)) (a2w Z Q a b c e f g i):=by
 have k7:=a2R Z Q a b c e f g i;have hF:∀ x,x<w.heap.size->x ∉ [Q]:=fun x hx e=>by simp at e;omega
 have hG:∀ x∈v.ownBlock.toList,B<=x/\x<Z.heap.size:=fun x hx=>⟨d0G ho (Option.mem_toList.1 hx),c7O ho (Option.mem_toList.1 hx)⟩
 refine⟨c7N,v,c7N,c7N,xs,F,v.ownBlock.toList,rfl,fun w2 h2=>⟨⟨[],EV.nil _,rfl⟩,⟨(NV.own ho).form,fun k hk=>?_⟩,NV.nil _⟩,World.ownsRow_nil _ _ _ _,(h.later kZ).off k7 (fun x hx=>hF x (h.lt x hx)) (fun x hx=>hF _ (h.rd.sp x hx).2.2),fun _ hx=>.inl hx,(Off.of_below kZ).trans' k7 (fun x hx=>.inr (by simp at hx;omega)),fun x hx=>?_,fun x hx=>by simp[Value.ownBlock] at hx,fun x hx=>.inl ⟨x,hx,rfl⟩⟩
 ·obtain⟨y,cap,e1,e2⟩:=(NV.own ho).cell k hk;have hy:y∈v.ownBlock.toList:=by rw[e1];simp[Value.ownBlock]
  have:=hG y hy;exact⟨y,cap,e1,(zo ((h2 y hy).trans (k7.block y this.2 (by simp;omega)))).trans e2⟩
 ·have:=hG x hx;exact⟨by omega,Nat.lt_of_lt_of_le this.2 k7.size,fun e=>by have:=h.lt x e;omega,by simp[Value.ownBlock]⟩
theorem f6z{xs:List (Ent × Nat × Nat)}(h:DD w d s xs F)(hc:∀ j,j<n->w.cell? ⟨g,j,none⟩=some (.string (ws j)))(hz:∀ j,(ws j).size<=160)(hr:h4y ws 1 k pc acc tm)(hn:k+7<n)(h0:ws 0=⟨#[101,120,112,97,110,100]⟩)(hf:Rd.a6s (ruW ws 1 k pc acc tm)):
  Calls Tryz.prog 117 #[.pointer (some ⟨d,0,none⟩),.slice (some ⟨g,0,none⟩) n c] w (d1S w d F xs (a0g s (.expand (ruW ws 1 k pc acc tm)))):=by
 have P0:=a0b ((KP.nil w).alloc a0f);have H:=a0b h;have RL:Hid (∀ W,Below w.heap.size w W->Calls Tryz.prog 180 #[.slice (some ⟨g,0,none⟩) n c,.int .i64 1] W fun e w'=>e=.returned (ruR (ruW ws 1 k pc acc tm))/\Below W.heap.size W w'):=fun W kW=>e7f (i:=1) (fun j hj=>a0a kW (hc j hj)) hz (by omega) hr hn
 have DY:=a0b (fun W=>f6Q _ hf W);have i0:(0:Int)<(n:Int):=by omega
 have y0:=a0a P0.out.bl (hc 0 (by omega));rw[h0] at y0;generalize ruW ws 1 k pc acc tm=q at *;simp only[ruR,ruL] at RL DY;have ES:=a0b (Rd.a5K hf).2;clear h hc hz hr hf hn h0
 go_enter Tryz.func117,Tryz.ntmps117
 go_upto_region 1 with fail
 change Code.wp _ _ _ _ (w.alloc a0f);generalize w.alloc a0f=X at *
 go_wp2_with fail
 refine (RL.out _ P0.out.bl).mono ?_;rintro e w2 ⟨rfl,hb⟩;have HP:=a0b ((P0.out.later hb).alloc (ruB q));clear hb RL P0 y0
 go_upto_region 24 with fail
 change Code.wp _ _ _ _ (w2.alloc (ruB q));obtain⟨rb,hrb⟩:∃ rb,rb=w2.heap.size:=⟨_,rfl⟩;rw[<- hrb] at HP ⊢;generalize w2.alloc (ruB q)=W at *;obtain⟨⟨c0,c1,c9,c10,c11,c12,c13⟩,cJ⟩:=ruC HP.out.at0;have j0:=cJ 0 (by omega);have j1:=cJ 1 (by omega);have j2:=cJ 2 (by omega);have j3:=cJ 3 (by omega);have j4:=cJ 4 (by omega);have j5:=cJ 5 (by omega);have j6:=cJ 6 (by omega);have hQ:w.heap.size<W.heap.size:=HP.out.lt (q:=(w.heap.size,a0f)) (by simp);clear cJ hrb
 go_wp2_with fail
 refine (DY.out _).mono ?_;rintro e w3 ⟨hb3,hd⟩;replace HP:=a0b (HP.out.later hb3);clear c0 c1 c9 c10 c11 c12 c13 j0 j1 j2 j3 j4 j5 j6 DY;obtain⟨q0,q1,q2,q3,q4,q5,q6,fq⟩:=Q7.of (HP.out.kb (w.heap.size,a0f) (by simp));rcases hd with ⟨he,v,rfl,ho⟩|⟨he,rfl⟩
 ·have hlen:(Rd.a0E q).length<=40:=(ES.out he).2.2.1
  have HF:Hid (d1S w d F xs (a0g s (.expand q)) (.returned (a0s 0 0 (Rd.a0E q).length c7N v c7N c7N)) (a2w w3 w.heap.size (.int .i64 0) (.int .i64 0) (.int .i64 (Rd.a0E q).length) c7N v c7N c7N)):=by
   have e:a0g s (.expand q)=(s,{ Rep.num (Rd.a0E q).length with days:=Rd.a0E q }):=by simp[a0g,he]
   rw[e];exact H.out.days HP.out.bl ho (zq _) hQ _ _ _ _ _ _ _ _
  obtain⟨va,vc,rfl⟩:=c9y ho;clear ho he hb3;generalize (Rd.a0E q).length=m at *
  go_wp2_with fail
  exact d0O Tryz.results117 ⟨q0,q1,q2,q3,q4,q5,q6,fq⟩ HF.out
 ·have HF:Hid (d1S w d F xs (a0g s (.expand q)) (.returned (a0s (Rd.a6W q) 0 0 c7N c7N c7N c7N)) (a2w w3 w.heap.size (.int .i64 (Rd.a6W q)) (.int .i64 0) (.int .i64 0) c7N c7N c7N c7N)):=by
   have e:a0g s (.expand q)=(s,Rep.error (Rd.a6W q)):=by simp[a0g,he]
   rw[e];exact H.out.said HP.out.bl (zq _) _ 0 _ _ _ _ _ _ _
  clear he hb3;generalize Rd.a6W q=er at *
  go_wp2_with fail
  exact d0O Tryz.results117 ⟨q0,q1,q2,q3,q4,q5,q6,fq⟩ HF.out
namespace Desk
theorem e9d(tq:Int)(e:Ent):∀ l:List Ent,a3D tq (l++[e])=if e.kind≠1/\e.a0Z<a3D tq l then e.a0Z else a3D tq l
 |[]=>rfl
 |a :: l=>by
  have ih:=e9d tq e l;have hz:a3D tq (a :: l++[e])=if a.kind≠1/\a.a0Z<a3D tq (l++[e]) then a.a0Z else a3D tq (l++[e]):=rfl
  have hy:a3D tq (a :: l)=if a.kind≠1/\a.a0Z<a3D tq l then a.a0Z else a3D tq l:=rfl
  rw[hz,ih];generalize a3D tq (a :: l)=y at *;generalize a3D tq l=x at *;subst hy
  by_cases p:a.kind=1 <;> by_cases q:e.kind=1 <;> simp only[p,q,ne_eq,not_true_eq_false,not_false_eq_true,true_and,false_and,if_false] <;> (repeat' split) <;> omega
theorem h5d{α:Type}(f:α->Int):∀ {l:List α},(l.map f).Nodup->∀ x∈l,∀ y∈l,f x=f y->x=y
 |a :: l,h,x,hx,y,hy,e=>by
  rw[List.map_cons,List.nodup_cons] at h;rcases List.mem_cons.1 hx with rfl|hx1 <;> rcases List.mem_cons.1 hy with rfl|hy1
  ·rfl
  ·exact (h.1 (e ▸ List.mem_map.2 ⟨y,hy1,rfl⟩)).elim
  ·exact (h.1 (e ▸ List.mem_map.2 ⟨x,hx1,rfl⟩)).elim
  ·exact h5d f h.2 x hx1 y hy1 e
theorem h3B{α:Type}(f:α->Int)(p:α->Bool){l:List α}(h:(l.map f).Nodup):l.filter (fun x=>!((l.filter p).map f).contains (f x))=l.filter fun x=>!p x:=by
 refine List.filter_congr fun x hx=>?_
 congr 1
 rw[Bool.eq_iff_iff,List.contains_iff_mem,List.mem_map];constructor
 ·rintro ⟨y,hy,e⟩;obtain⟨hy1,hy2⟩:=List.mem_filter.1 hy;rw[<- h5d f h y hy1 x hx e];exact hy2
 ·intro hp;exact⟨x,List.mem_filter.2 ⟨hx,hp⟩,rfl⟩
theorem h0r(es:List Ent)(L:List Int)(z:Int):es.filter (fun e=>!(L++[z]).contains e.id)=(es.filter (fun e=>!L.contains e.id)).filter (fun e=>e.id != z):=by
 rw[List.filter_filter];refine List.filter_congr fun e _=>?_
 by_cases h1:e.id∈L <;> by_cases h2:e.id=z <;> simp[h1,h2]
theorem h2g{now:Int}(h:now<tq):a1K ts (k+1) es now tq=((a1K ts k (a0R ts (es.filter fun e=>!a0z (a3D tq es) e)).1 (a3D tq es) tq).1,(es.filter (a0z (a3D tq es))).map (·.id)++(a1K ts k (a0R ts (es.filter fun e=>!a0z (a3D tq es) e)).1 (a3D tq es) tq).2.1,(a0R ts (es.filter fun e=>!a0z (a3D tq es) e)).2++(a1K ts k (a0R ts (es.filter fun e=>!a0z (a3D tq es) e)).1 (a3D tq es) tq).2.2):=by
 simp only[a1K,if_pos h]
theorem g8x{now:Int}(h:¬ now<tq):a1K ts k es now tq=(es,[],[]):=by
 cases k with
 |zero=>rfl
 |succ k=>simp only[a1K,if_neg h]
theorem g5v(tq:Int):∀ es:List Ent,a3D tq es<=tq/\(∀ e∈es,e.kind≠1->a3D tq es<=e.a0Z)/\(a3D tq es=tq\/∃ e∈es,a0z (a3D tq es) e=true)
 |[]=>⟨Int.le_refl _,by simp,.inl rfl⟩
 |a :: l=>by
  obtain⟨i1,i2,i3⟩:=g5v tq l;simp only[a3D]
  split
  ·rename_i h
   refine⟨by omega,fun e he hk=>?_,.inr ⟨a,List.mem_cons_self,by simp[a0z,h.1]⟩⟩;rcases List.mem_cons.1 he with rfl|he
   ·omega
   ·have:=i2 e he hk;omega
  ·rename_i h
   refine⟨i1,fun e he hk=>?_,i3.imp id fun ⟨e,he,hb⟩=>⟨e,List.mem_cons_of_mem _ he,hb⟩⟩;rcases List.mem_cons.1 he with rfl|he
   ·rcases Int.lt_or_le e.a0Z (a3D tq l) with q|q
    ·exact (h ⟨hk,q⟩).elim
    ·exact q
   ·exact i2 e he hk
end Desk
open Desk (Ent St Rep a0R)
def rpB(tq:Int)(v5 v6:Value):Obj:=.cells #[.int .i64 0,.int .i64 0,.int .i64 tq,c7N,c7N,v5,v6] 40 (0,0)
structure RTk(w:World)(d:Nat)(F:List Nat)(xs:List (Ent × Nat × Nat))(tq:Int)(s:St)(gr en:List Int)(ys:List (Ent × Nat × Nat))(F':List Nat)(v5 v6:Value)(N:Nat)(wr:World):Prop where
 dd:DD wr d s ys F'
 hF:∀ k∈F',k<N/\(k∈F\/w.heap.size+2<=k)
 off:Off F w wr
 bo:g0c ys xs
 kb:wr.heap[w.heap.size+1]?=some (rpB tq v5 v6)
 kq:wr.heap[w.heap.size]?=some a0f
 r5:wr.ownsRow (w.heap.size+2) 3 1 v5 gr.length (gr.map (Value.int .i64))
 r6:wr.ownsRow (w.heap.size+2) 3 1 v6 en.length (en.map (Value.int .i64))
 a5:∀ k,v5.ownBlock=some k->k<N/\k ∉ F'/\v6.ownBlock≠some k
 a6:∀ k,v6.ownBlock=some k->k<N/\k ∉ F'
 hN:w.heap.size+2<=N/\N<=wr.heap.size
 hx:∀ x∈xs,x.2.1<w.heap.size
 hf:∀ k∈F,k<w.heap.size
section
variable {w wr w':World}{d:Nat}{F:List Nat}{xs ys:List (Ent × Nat × Nat)}{tq:Int}{s:St}{gr en:List Int}{F':List Nat}{v5 v6:Value}{N:Nat}
theorem RTk.sp(h:RTk w d F xs tq s gr en ys F' v5 v6 N wr):∀ x∈ys,x.2.1<w.heap.size:=fun x hx=>by
 obtain⟨z,hz,e⟩:=h.bo x hx;rw[e];exact h.hx z hz
theorem RTk.nF(h:RTk w d F xs tq s gr en ys F' v5 v6 N wr)(hk:w.heap.size<=k)(h2:k<w.heap.size+2):k ∉ F':=fun e=>by
 rcases (h.hF k e).2 with q|q
 ·have:=h.hf k q;omega
 ·omega
theorem RTk.new(h:RTk w d F xs tq s gr en ys F' v5 v6 N wr)(k:Off G wr w')(hG:∀ x∈G,N<=x):RTk w d F xs tq s gr en ys F' v5 v6 N w':=by
 have no:∀ x,x<N->x ∉ G:=fun x hx e=>by have:=hG x e;omega
 have hn:=h.hN;exact⟨h.dd.off k (fun x hx=>no x (h.hF x hx).1) (fun x hx=>no _ (by have:=h.sp x hx;omega)),h.hF,h.off.trans' k (fun x hx=>.inr (by have:=hG x hx;omega)),h.bo,(k.block _ (by omega) (no _ (by omega))).trans h.kb,(k.block _ (by omega) (no _ (by omega))).trans h.kq,a1i h.r5 k (fun b hb=>no b (h.a5 b hb).1),a1i h.r6 k (fun b hb=>no b (h.a6 b hb).1),h.a5,h.a6,⟨hn.1,Nat.le_trans hn.2 k.size⟩,h.hx,h.hf⟩
theorem RTk.later(h:RTk w d F xs tq s gr en ys F' v5 v6 N wr)(k:Below wr.heap.size wr w'):RTk w d F xs tq s gr en ys F' v5 v6 N w':=h.new (G:=[]) (Off.of_below k) (by simp)
theorem RTk.own(h:RTk w d F xs tq s gr en ys F' v5 v6 N wr){s':St}{zs:List (Ent × Nat × Nat)}(k:Off F' wr w')(hd:DD w' d s' zs F')(hb:g0c zs ys):RTk w d F xs tq s' gr en zs F' v5 v6 N w':=by
 have hn:=h.hN
 exact⟨hd,h.hF,h.off.trans' k (fun x hx=>(h.hF x hx).2.imp id (fun e=>by omega)),fun x hx=>by
  obtain⟨y,hy,e⟩:=hb x hx;obtain⟨z,hz,e2⟩:=h.bo y hy
  exact⟨z,hz,e.trans e2⟩,(k.block _ (by omega) (h.nF (by omega) (by omega))).trans h.kb,(k.block _ (by omega) (h.nF (by omega) (by omega))).trans h.kq,a1i h.r5 k (fun b hb=>(h.a5 b hb).2.1),a1i h.r6 k (fun b hb=>(h.a6 b hb).2),h.a5,h.a6,⟨hn.1,Nat.le_trans hn.2 k.size⟩,h.hx,h.hf⟩
theorem DD.now(h:DD wr d s ys F')(t:Int):DD (wr.setCell ⟨d,3,none⟩ (.int .i64 t)) d { s with now:=t } ys F':=by
 have k:Off [d] wr (wr.setCell ⟨d,3,none⟩ (.int .i64 t)):=Off.set0 ..;obtain⟨v1,a1,a2,a3⟩:=h.rd.tv;obtain⟨v2,b1,b2,b3⟩:=h.rd.ev
 exact⟨⟨⟨v1,(zS _ _ _ _ (by simp)).trans a1,a1i a2 k (fun b hb=>by simpa using (a3 b hb).2),a3⟩,⟨v2,(zS _ _ _ _ (by simp)).trans b1,a1i b2 k (fun b hb=>by simpa using (b3 b hb).2),b3⟩,(zS _ _ _ _ (by simp)).trans h.rd.c2,World.cell?_setCell_same _ _ _ h.rd.c3,
  fun o=>(zF ..).trans (h.rd.fz o),h.rd.dF,fun x hx=>⟨(h.rd.sp x hx).1.off k (by simp;intro e;exact (h.rd.sp x hx).2.1 (e ▸ h.rd.dF)),(h.rd.sp x hx).2.1,Nat.lt_of_lt_of_le (h.rd.sp x hx).2.2 k.size⟩⟩,h.es,fun x hx=>zL (h.lt x hx) k.size,h.tl,h.el,h.en⟩
theorem RTk.now(h:RTk w d F xs tq s gr en ys F' v5 v6 N wr)(t:Int):RTk w d F xs tq { s with now:=t } gr en ys F' v5 v6 N (wr.setCell ⟨d,3,none⟩ (.int .i64 t)) :=
 h.own ((Off.set0 d wr 3 _).mono (fun x hx=>by rw[List.mem_singleton.1 hx];exact h.dd.rd.dF)) (h.dd.now t) (fun x hx=>⟨x,hx,rfl⟩)
theorem RTk.wo(h:RTk w d F xs tq s gr en ys F' v5 v6 N wr)(ho:Z.ownsRow wr.heap.size 58 6 v (d2z id ys).length ((d2z id ys).flatMap c7a))(k:Below wr.heap.size wr Z):
  RTk w d F xs tq { s with es:=s.es.filter fun e=>e.id != id } gr en (d2z id ys) (v.ownBlock.toList++F') v5 v6 (Z.setCell ⟨d,1,none⟩ v).heap.size (Z.setCell ⟨d,1,none⟩ v):=by
 have hn:=h.hN;have hz:=h.later k;have hv:∀ b∈v.ownBlock.toList,wr.heap.size<=b/\b<Z.heap.size:=fun b hb=>⟨d0G ho (Option.mem_toList.1 hb),c7O ho (Option.mem_toList.1 hb)⟩
 have kd:Off [d] Z (Z.setCell ⟨d,1,none⟩ v):=Off.set0 ..;have hd:d∈F':=h.dd.rd.dF;have hD:=h.dd.fresh (s:=s) (es':=s.es.filter fun e=>e.id != id) ho (zq _) k (fun y hy=>(List.mem_filter.1 hy).1) (List.length_filter_le ..) (by rw[<- h.dd.es,d2z,List.filter_map];rfl);have hs:(Z.setCell ⟨d,1,none⟩ v).heap.size=Z.heap.size:=by simp
 have ks:=k.size;have nd:∀ x,x ∉ F'->x ∉ [d]:=fun x hx e=>hx (by rw[List.mem_singleton.1 e];exact hd)
 refine⟨hD,fun x hx=>?_,hz.off.trans' kd (fun x hx=>by rw[List.mem_singleton.1 hx];exact (h.hF d hd).2.imp (fun q=>q) (fun e=>by omega)),fun x hx=>h.bo x (List.mem_filter.1 hx).1,(kd.block _ (by omega) (nd _ (h.nF (by omega) (by omega)))).trans hz.kb,(kd.block _ (by omega) (nd _ (h.nF (by omega) (by omega)))).trans hz.kq,a1i hz.r5 kd (fun b hb=>nd b (h.a5 b hb).2.1),a1i hz.r6 kd (fun b hb=>nd b (h.a6 b hb).2),fun b hb=>?_,fun b hb=>?_,⟨by omega,Nat.le_refl _⟩,h.hx,h.hf⟩
 ·rcases List.mem_append.1 hx with e|e
  ·have:=hv x e;exact⟨by omega,.inr (by omega)⟩
  ·have:=h.hF x e;exact⟨by omega,this.2⟩
 ·obtain⟨p1,p2,p3⟩:=h.a5 b hb;refine⟨by omega,fun e=>?_,p3⟩;rcases List.mem_append.1 e with e|e
  ·have:=hv b e;omega
  ·exact p2 e
 ·obtain⟨p1,p2⟩:=h.a6 b hb;refine⟨by omega,fun e=>?_⟩;rcases List.mem_append.1 e with e|e
  ·have:=hv b e;omega
  ·exact p2 e
theorem RTk.add6(h:RTk w d F xs tq s gr en ys F' v5 v6 N wr)(ho:w'.ownsRow (w.heap.size+2) 3 1 v (en++l).length ((en++l).map (Value.int .i64)))(k:Off v6.ownBlock.toList wr w')(hat:∀ b,v.ownBlock=some b->v6.ownBlock=some b\/wr.heap.size<=b):
  RTk w d F xs tq s gr (en++l) ys F' v5 v (w'.setCell ⟨w.heap.size+1,6,none⟩ v).heap.size (w'.setCell ⟨w.heap.size+1,6,none⟩ v):=by
 have hn:=h.hN;have h6:∀ b∈v6.ownBlock.toList,w.heap.size+2<=b/\b<N/\b ∉ F':=fun b hb=>⟨d0G h.r6 (Option.mem_toList.1 hb),h.a6 b (Option.mem_toList.1 hb)⟩
 have kb:Off [w.heap.size+1] w' (w'.setCell ⟨w.heap.size+1,6,none⟩ v):=Off.set0 ..;have hs:(w'.setCell ⟨w.heap.size+1,6,none⟩ v).heap.size=w'.heap.size:=by simp
 have ks:=k.size;have n1:∀ x,x<w.heap.size+2->x ∉ v6.ownBlock.toList:=fun x hx e=>by have:=h6 x e;omega
 have nb:∀ x,x≠w.heap.size+1->x ∉ [w.heap.size+1]:=fun x hx e=>hx (List.mem_singleton.1 e)
 have hv:∀ b,v.ownBlock=some b->w.heap.size+2<=b/\b<w'.heap.size:=fun b hb=>⟨d0G ho hb,c7O ho hb⟩
 refine⟨(h.dd.off k (fun x hx e=>(h6 x e).2.2 hx) (fun x hx=>n1 _ (by have:=h.sp x hx;omega))).off kb (fun x hx=>nb x (fun e=>h.nF (k:=x) (by omega) (by omega) hx)) (fun x hx=>nb _ (by have:=h.sp x hx;omega)),fun x hx=>?_,(h.off.trans' k (fun x hx=>.inr (by have:=h6 x hx;omega))).trans' kb (fun x hx=>.inr (by have:=List.mem_singleton.1 hx;omega)),h.bo,?_,(kb.block _ (by omega) (nb _ (by omega))).trans ((k.block _ (by omega) (n1 _ (by omega))).trans h.kq),a1i (a1i h.r5 k (fun b hb e=>(h.a5 b hb).2.2 (Option.mem_toList.1 e))) kb (fun b hb=>nb b (by have:=d0G h.r5 hb;omega)),a1i ho kb (fun b hb=>nb b (by have:=(hv b hb).1;omega)),fun b hb=>?_,fun b hb=>?_,⟨by omega,Nat.le_refl _⟩,h.hx,h.hf⟩
 ·have:=h.hF x hx;exact⟨by omega,this.2⟩
 ·exact d1X ((k.block _ (by omega) (n1 _ (by omega))).trans h.kb) v
 ·obtain⟨p1,p2,p3⟩:=h.a5 b hb;refine⟨by omega,p2,fun e=>?_⟩;rcases hat b e with q|q
  ·exact p3 q
  ·omega
 ·have:=hv b hb;refine⟨by omega,fun e=>?_⟩;rcases hat b hb with q|q
  ·exact (h.a6 b q).2 e
  ·have:=h.hF b e;omega
theorem RTk.add5(h:RTk w d F xs tq s gr en ys F' v5 v6 N wr)(ho:w'.ownsRow (w.heap.size+2) 3 1 v (gr++l).length ((gr++l).map (Value.int .i64)))(k:Off v5.ownBlock.toList wr w')(hat:∀ b,v.ownBlock=some b->v5.ownBlock=some b\/wr.heap.size<=b):
  RTk w d F xs tq s (gr++l) en ys F' v v6 (w'.setCell ⟨w.heap.size+1,5,none⟩ v).heap.size (w'.setCell ⟨w.heap.size+1,5,none⟩ v):=by
 have hn:=h.hN;have h5:∀ b∈v5.ownBlock.toList,w.heap.size+2<=b/\b<N/\b ∉ F'/\v6.ownBlock≠some b:=fun b hb=>⟨d0G h.r5 (Option.mem_toList.1 hb),h.a5 b (Option.mem_toList.1 hb)⟩
 have kb:Off [w.heap.size+1] w' (w'.setCell ⟨w.heap.size+1,5,none⟩ v):=Off.set0 ..;have hs:(w'.setCell ⟨w.heap.size+1,5,none⟩ v).heap.size=w'.heap.size:=by simp
 have ks:=k.size;have n1:∀ x,x<w.heap.size+2->x ∉ v5.ownBlock.toList:=fun x hx e=>by have:=h5 x e;omega
 have nb:∀ x,x≠w.heap.size+1->x ∉ [w.heap.size+1]:=fun x hx e=>hx (List.mem_singleton.1 e)
 have hv:∀ b,v.ownBlock=some b->w.heap.size+2<=b/\b<w'.heap.size:=fun b hb=>⟨d0G ho hb,c7O ho hb⟩
 refine⟨(h.dd.off k (fun x hx e=>(h5 x e).2.2.1 hx) (fun x hx=>n1 _ (by have:=h.sp x hx;omega))).off kb (fun x hx=>nb x (fun e=>h.nF (k:=x) (by omega) (by omega) hx)) (fun x hx=>nb _ (by have:=h.sp x hx;omega)),fun x hx=>?_,(h.off.trans' k (fun x hx=>.inr (by have:=h5 x hx;omega))).trans' kb (fun x hx=>.inr (by have:=List.mem_singleton.1 hx;omega)),h.bo,?_,(kb.block _ (by omega) (nb _ (by omega))).trans ((k.block _ (by omega) (n1 _ (by omega))).trans h.kq),a1i ho kb (fun b hb=>nb b (by have:=(hv b hb).1;omega)),a1i (a1i h.r6 k (fun b hb e=>(h5 b e).2.2.2 hb)) kb (fun b hb=>nb b (by have:=d0G h.r6 hb;omega)),fun b hb=>?_,fun b hb=>?_,⟨by omega,Nat.le_refl _⟩,h.hx,h.hf⟩
 ·have:=h.hF x hx;exact⟨by omega,this.2⟩
 ·exact d1X ((k.block _ (by omega) (n1 _ (by omega))).trans h.kb) v
 ·have:=hv b hb;refine⟨by omega,fun e=>?_,fun e=>?_⟩
  ·rcases hat b hb with q|q
   ·exact (h.a5 b q).2.1 e
   ·have:=h.hF b e;omega
  ·rcases hat b hb with q|q
   ·exact (h.a5 b q).2.2 e
   ·have:=(h.a6 b e).1;omega
 ·obtain⟨p1,p2⟩:=h.a6 b hb;exact⟨by omega,p2⟩
theorem RTk.ans(h:RTk w d F xs tq s gr en ys F' v5 v6 N wr)(a b c e f g i:Value):d1S w d F xs (s,{ Rep.num tq with granted:=gr,ended:=en }) (.returned (a0s 0 0 tq c7N c7N v5 v6)) (a2w wr w.heap.size a b c e f g i):=by
 have k7:=a2R wr w.heap.size a b c e f g i;have hn:=h.hN;have n7:∀ x,x≠w.heap.size->x ∉ [w.heap.size]:=fun x hx q=>hx (List.mem_singleton.1 q)
 have h6:∀ y∈v6.ownBlock.toList,w.heap.size+2<=y/\y<wr.heap.size:=fun y hy=>⟨d0G h.r6 (Option.mem_toList.1 hy),c7O h.r6 (Option.mem_toList.1 hy)⟩
 refine⟨c7N,c7N,v5,v6,ys,F',v6.ownBlock.toList,rfl,fun w2 h2=>⟨⟨[],EV.nil _,rfl⟩,NV.nil _,⟨(NV.own h.r6).form,fun k hk=>?_⟩⟩,d7F (a1i h.r5 k7 (fun b hb=>n7 b (by have:=d0G h.r5 hb;omega))) (by omega),h.dd.off k7 (fun x hx=>n7 x (fun e=>h.nF (k:=x) (by omega) (by omega) hx)) (fun x hx=>n7 _ (by have:=h.sp x hx;omega)),fun k hk=>(h.hF k hk).2.imp (fun q=>q) (fun q=>by omega),h.off.trans' k7 (fun x hx=>.inr (by have:=List.mem_singleton.1 hx;omega)),fun x hx=>?_,fun x hx=>⟨(h.a5 x hx).2.1,fun z hz q=>by have:=h.sp z hz;have:=d0G h.r5 hx;omega⟩,fun x hx=>.inl (h.bo x hx)⟩
 ·obtain⟨y,cap,e1,e2⟩:=(NV.own h.r6).cell k hk;have hy:y∈v6.ownBlock.toList:=by rw[e1];simp[Value.ownBlock]
  have:=h6 y hy;exact⟨y,cap,e1,(zo ((h2 y hy).trans (k7.block y (by omega) (n7 y (by omega))))).trans e2⟩
 ·have:=h6 x hx;exact⟨by omega,Nat.lt_of_lt_of_le this.2 k7.size,(h.a6 x (Option.mem_toList.1 hx)).2,fun q=>(h.a5 x q).2.2 (Option.mem_toList.1 hx)⟩
end
open Desk (Ent St Rep a0g a0R a1K a3D a0z Inv)
structure TkM(s:St)(tq:Int)(es:List Ent)(now:Int)(gr en:List Int)(k:Nat):Prop where
 eq:a1K s.ts (s.es.length+1) s.es s.now tq=((a1K s.ts k es now tq).1,en++(a1K s.ts k es now tq).2.1,gr++(a1K s.ts k es now tq).2.2)
 lk:now<tq->es.length<k
 kk:k<=61
 nt:now<=tq
 iv:Inv ⟨s.ts,es,s.given,now⟩
 gl:gr.length+60*k<=3660
 el:en.length+es.length<=60
theorem TkM.step{now:Int}{gr en:List Int}(h:TkM s tq es now gr en k)(hlt:now<tq)(hq:tq<=1048320){t:Int}(ht:t=a3D tq es):
  now<t/\∃ k',TkM s tq (a0R s.ts (es.filter fun e=>!a0z t e)).1 t (gr++(a0R s.ts (es.filter fun e=>!a0z t e)).2) (en++(es.filter (a0z t)).map (·.id)) k':=by
 have hk:=h.lk hlt;obtain⟨k,rfl⟩:∃ j,k=j+1:=⟨k-1,by omega⟩;obtain⟨i1,i2,i3⟩:=Desk.g5v tq es;rw[<- ht] at i1 i2 i3
 have hb:∀ e∈es,a0z t e=true->now<t:=fun e he hb=>by
  unfold a0z at hb;rw[Bool.and_eq_true,decide_eq_true_iff] at hb;have hk1:e.kind≠1:=by simpa using hb.1
  rcases (h.iv.en e he).kd with q|q
  ·exact (hk1 q.1).elim
  ·have:=q.2.1;simp only at this;omega
 have hnt:now<t:=by
  rcases i3 with e|⟨e,he,q⟩
  ·omega
  ·exact hb e he q
 have f2:=Desk.d9a (a0z t) es;have f3:=Desk.b8x s.ts (es.filter fun e=>!a0z t e);have f4:=Desk.a7H s.ts (es.filter fun e=>!a0z t e);have g:=h.gl;have e:=h.el;have kk:=h.kk;refine⟨hnt,k,?_,fun q=>?_,by omega,i1,(Desk.c1Y h.iv hnt (by omega) i2).1,?_,?_⟩
 ·have e1:=h.eq;rw[Desk.h2g hlt,<- ht] at e1;simp only[List.append_assoc];exact e1
 ·rcases i3 with e|⟨x,hx,q2⟩
  ·omega
  ·have:0<(es.filter (a0z t)).length:=List.length_pos_of_mem (List.mem_filter.2 ⟨hx,q2⟩);omega
 ·rw[List.length_append];omega
 ·rw[List.length_append,List.length_map,f4];omega
def g9Y(w:World)(d:Nat):Int:=intOf ((w.cell? ⟨d,3,none⟩).getD undef)
theorem g8A{xs:List (Ent × Nat × Nat)}(h:DD w d s xs F)(hi:Inv s){n:Int}(hn:1<=n/\n<=1048320):
  Calls Tryz.prog 176 #[.pointer (some ⟨d,0,none⟩),.int .i64 n] w (d1S w d F xs (a0g s (.tick n))):=by
 have P0:=a0b ((KP.nil w).alloc a0f);have H:=a0b h;have HI:=a0b hi;have n0:=hi.n0;have n1:=hi.n1;have c3:=(h.later P0.out.bl).rd.c3;have wt:IntKind.i64.wrap (s.now+n)=s.now+n:=a0i (by omega) (by omega);clear h hi
 go_enter Tryz.func176,Tryz.ntmps176
 go_upto_region 1 with fail
 change Code.wp _ _ _ _ (w.alloc a0f);have hXs:(w.alloc a0f).heap.size=w.heap.size+1:=by simp
 generalize w.alloc a0f=X at *
 by_cases ht:1048320<s.now+n
 ·have HF:Hid (d1S w d F xs (a0g s (.tick n)) (.returned (a0s 6 0 0 c7N c7N c7N c7N)) (a2w X w.heap.size (.int .i64 6) (.int .i64 0) (.int .i64 0) c7N c7N c7N c7N)):=by
   have e:a0g s (.tick n)=(s,Rep.error 6):=by simp[a0g,ht]
   rw[e];exact H.out.said P0.out.bl (zq _) 6 0 _ _ _ _ _ _ _
  obtain⟨q0,q1,q2,q3,q4,q5,q6,fq⟩:=Q7.of (P0.out.kb (w.heap.size,a0f) (by simp))
  go_wp2_with fail
  exact d0O Tryz.results176 ⟨q0,q1,q2,q3,q4,q5,q6,fq⟩ HF.out
 have HD:Hid (a0g s (.tick n)=({ s with es:=(a1K s.ts (s.es.length+1) s.es s.now (s.now+n)).1,now:=s.now+n },{ Rep.num (s.now+n) with granted:=(a1K s.ts (s.es.length+1) s.es s.now (s.now+n)).2.2,ended:=(a1K s.ts (s.es.length+1) s.es s.now (s.now+n)).2.1 })):=by
  show _=_;simp[a0g,ht]
 have HM:Hid (TkM s (s.now+n) s.es s.now [] [] (s.es.length+1)):=by
  have:=H.out.el;exact⟨by simp,fun _=>by omega,by omega,by omega,HI.out,by simp;omega,by simp;omega⟩
 go_upto_region 4 with fail
 have P1:=a0b (P0.out.alloc (rpB (s.now+n) c7N c7N));have hYs:(X.alloc (rpB (s.now+n) c7N c7N)).heap.size=w.heap.size+2:=by simp;omega
 go_upto_region 5 with fail
 change Code.wp _ _ _ _ (X.alloc (rpB (s.now+n) c7N c7N));rw[hXs] at P1;generalize X.alloc (rpB (s.now+n) c7N c7N)=Y at *;clear wt;generalize s.now+n=tq at *
 have T0:Hid (RTk w d F xs tq s [] [] xs F c7N c7N (w.heap.size+2) Y) :=
  ⟨H.out.later P1.out.bl,fun k hk=>⟨by have:=H.out.lt k hk;omega,.inl hk⟩,Off.of_below P1.out.bl,fun x hx=>⟨x,hx,rfl⟩,P1.out.kb (w.heap.size+1,rpB tq c7N c7N) (by simp),P1.out.kb (w.heap.size,a0f) (by simp),World.ownsRow_nil _ _ _ _,World.ownsRow_nil _ _ _ _,fun k hk=>by simp[Value.ownBlock] at hk,fun k hk=>by simp[Value.ownBlock] at hk,⟨zq _,by omega⟩,fun x hx=>(H.out.rd.sp x hx).2.2,H.out.lt⟩
 clear P0 P1 c3 hXs hYs
 go_loopw [7,8,9,10,11,12,13,14] (fun _ _ _ _ _ _ _ _ wr=>∃ (es:List Ent) (now:Int) (gr en:List Int) (k:Nat) (ys:List (Ent × Nat × Nat)) (F':List Nat) (v5 v6:Value) (N:Nat),RTk w d F xs tq ⟨s.ts,es,s.given,now⟩ gr en ys F' v5 v6 N wr/\TkM s tq es now gr en k) (fun _ _ _ _ _ _ _ _ wr=>(tq-g9Y wr d).toNat)
 case atStart=>exact⟨_,_,_,_,_,_,_,_,_,_,T0.out,HM.out⟩
 case round =>
  obtain⟨es,now,gr,en,k,ys,F',v5,v6,N,hT,hM⟩:=hrel;have HT:=a0b hT;have HK:=a0b hM;clear hT hM T0 HM;have c3:=HT.out.dd.rd.c3;have fz:=HT.out.dd.rd.fz;obtain⟨a5,p5,rfl⟩:=c9y HT.out.r5;obtain⟨a6,p6,rfl⟩:=c9y HT.out.r6
  by_cases hlt:now<tq
  ·have HNW:Hid (g9Y wr d=now):=by
    show _=_;unfold g9Y;rw[HT.out.dd.rd.c3];rfl
   go_upto_region 7 with fail
   have T1:=a0b (HT.out.now tq);generalize World.setCell wr _ _=W1 at *;clear HT c3 fz
   go_wp2_with fail
   go_loopw [7,8] (fun vi _ wx=>∃ i:Nat,i<=es.length/\vi=.int .i64 i/\RTk w d F xs tq ⟨s.ts,es,s.given,a3D tq (es.take i)⟩ gr en ys F' (.slice a5 gr.length p5) (.slice a6 en.length p6) N wx) (fun vi _ _=>es.length-(intOf vi).toNat)
   case atStart=>exact⟨0,Nat.zero_le _,rfl,T1.out⟩
   case round =>
    obtain⟨i,hil,rfl,hT2⟩:=hrel;have T2:=a0b hT2;clear hT2 T1;obtain⟨a,cap,E,hr⟩:=T2.out.dd.er;have hyl:ys.length=es.length:=T2.out.dd.len;have cc:=hr.c;rw[hyl] at cc;have m3:=T2.out.dd.rd.c3;have fz:=T2.out.dd.rd.fz 3
    by_cases hi:i<es.length
    ·have hi':(i:Int)<(es.length:Int):=by omega
     have hky:i<ys.length:=by omega
     obtain rfl:=hr.a i hky;have r0:=hr.r i hky;have c0:=r0.c0;have c1:=r0.c1;have c2:=r0.c2;have c3:=r0.c3;have c4:=r0.c4;have c5:=r0.c5
     have HY:Hid (ys[i].1=es[i]):=by
      show _=_;have e:=congrArg (fun l=>l[i]?) T2.out.dd.es
      simpa[hi,hky] using e
     have NXT:Hid (a3D tq (es.take (i+1))=if es[i].kind≠1/\es[i].a0Z<a3D tq (es.take i) then es[i].a0Z else a3D tq (es.take i)):=by
      show _=_;rw[List.take_succ_eq_append_getElem hi,Desk.e9d]
     have hX:Below wr.heap.size wr (wr.alloc (f5U ys[i])):=(zr _ _).alloc (zq _) _;have hE:(wr.alloc (f5U ys[i])).heap[wr.heap.size]?=some (f5U ys[i]):=a0p _ _
     have HI1:Hid (i+1<=es.length/\es.length-(i+1)<es.length-i):=by
      rw[Hid];omega
     have hi60:i<100:=by have:es.length<=60:=T2.out.dd.el;omega
     have wi:IntKind.i64.wrap ((i:Int)+1)=(i:Int)+1:=a0i (by omega) (by omega);clear r0 hr
     go_upto_region 11 with fail
     change Code.wp _ _ _ _ (wr.alloc (f5U ys[i]));have f1:=e5p hE;have f5:=e5o hE;have x3:=a0a hX m3;have T3:=a0b (T2.out.later hX);have xf:=T3.out.dd.rd.fz 3;clear hE c0 c1 c2 c3 c4 c5 cc m3 fz T2 hX;generalize wr.alloc (f5U ys[i])=X at *;rw[HY.out] at f1 f5;clear HY;generalize es[i].kind=kd at *;generalize es[i].a0Z=tl at *;generalize a3D tq (es.take i)=m at *;simp only at x3
     by_cases b1:kd=1
     ·have b1':(kd != 1)=false:=by simp[b1]
      have NX:Hid (a3D tq (es.take (i+1))=m):=NXT.out.trans (if_neg (fun e=>e.1 b1));clear b1 NXT
      go_big_region
      go_wp2_with fail
      exact⟨⟨i+1,HI1.out.1,by go_num,by rw[NX.out];exact T3.out.later (d7M (zr _ _) _)⟩,by have:=HI1.out.2;simp[intOf];omega⟩
     ·have b1':(kd != 1)=true:=by simp[b1]
      by_cases b2:tl<m
      ·have NX:Hid (a3D tq (es.take (i+1))=tl):=NXT.out.trans (if_pos ⟨b1,b2⟩);clear b1 NXT
       go_big_region
       go_wp2_with fail
       exact⟨⟨i+1,HI1.out.1,by go_num,by rw[NX.out];exact (T3.out.later (d7M (zr _ _) _)).now tl⟩,by have:=HI1.out.2;simp[intOf];omega⟩
      ·have NX:Hid (a3D tq (es.take (i+1))=m):=NXT.out.trans (if_neg (fun e=>b2 e.2));clear b1 NXT
       go_big_region
       go_wp2_with fail
       exact⟨⟨i+1,HI1.out.1,by go_num,by rw[NX.out];exact T3.out.later (d7M (zr _ _) _)⟩,by have:=HI1.out.2;simp[intOf];omega⟩
    ·have hie:i=es.length:=by omega
     subst hie;have hi':¬ ((es.length:Nat):Int)<(es.length:Int):=by omega
     rw[List.take_length] at T2;clear m3 fz hil;obtain⟨t,ht⟩:∃ t,t=a3D tq es:=⟨_,rfl⟩;have HTT:=a0b ht;rw[<- ht] at T2;clear ht
     go_upto_region 14 with fail
     have hMN:=T2.out.hN.2;have HVN:Hid (w.heap.size+2<=wr.heap.size):=Nat.le_trans T2.out.hN.1 T2.out.hN.2;obtain⟨V,hV⟩:∃ V,V=wr:=⟨_,rfl⟩;subst hV;clear cc hr
     go_wp2_with fail
     go_loopw [9,10,11] (fun v9 vi _ wx=>∃ i:Nat,i<=es.length/\vi=.int .i64 i/\RTk w d F xs tq ⟨s.ts,es,s.given,t⟩ gr en ys F' (.slice a5 gr.length p5) (.slice a6 en.length p6) N wx/\V.heap.size<=wx.heap.size/\wx.ownsRow V.heap.size 3 1 v9 (((es.take i).filter (a0z t)).map (·.id)).length ((((es.take i).filter (a0z t)).map (·.id)).map (Value.int .i64))) (fun _ vi _ _=>es.length-(intOf vi).toNat)
     case atStart=>exact⟨0,Nat.zero_le _,rfl,T2.out,Nat.le_refl _,World.ownsRow_nil _ _ _ _⟩
     case round =>
      obtain⟨i,hil,rfl,hT3,hvs,hown⟩:=hrel;have T3:=a0b hT3;have OW:=a0b hown;clear hT3 T2;obtain⟨va,vc,rfl⟩:=c9y hown;clear hown;obtain⟨a,cap,E,hr⟩:=T3.out.dd.er;have hyl:ys.length=es.length:=T3.out.dd.len;have cc:=hr.c;rw[hyl] at cc;have m3:=T3.out.dd.rd.c3
      by_cases hi:i<es.length
      ·have hi':(i:Int)<(es.length:Int):=by omega
       have hky:i<ys.length:=by omega
       obtain rfl:=hr.a i hky;have r0:=hr.r i hky;have c0:=r0.c0;have c1:=r0.c1;have c2:=r0.c2;have c3:=r0.c3;have c4:=r0.c4;have c5:=r0.c5
       have HY:Hid (ys[i].1=es[i]):=by
        show _=_;have e:=congrArg (fun l=>l[i]?) T3.out.dd.es
        simpa[hi,hky] using e
       have NXT:Hid (((es.take (i+1)).filter (a0z t)).map (·.id)=((es.take i).filter (a0z t)).map (·.id)++(if a0z t es[i] then [es[i].id] else [])):=by
        show _=_;rw[List.take_succ_eq_append_getElem hi,List.filter_append,List.map_append]
        congr 1
        by_cases q:a0z t es[i]=true
        ·simp[q]
        ·simp[q]
       have hX:Below wr.heap.size wr (wr.alloc (f5U ys[i])):=(zr _ _).alloc (zq _) _;have hE:(wr.alloc (f5U ys[i])).heap[wr.heap.size]?=some (f5U ys[i]):=a0p _ _;have hXs:wr.heap.size<=(wr.alloc (f5U ys[i])).heap.size:=hX.size
       have HI1:Hid (i+1<=es.length/\es.length-(i+1)<es.length-i):=by
        rw[Hid];omega
       have h60:es.length<=60:=T3.out.dd.el
       have hll:(((es.take i).filter (a0z t)).map (·.id)).length<=1000000:=by
        have:=List.length_filter_le (a0z t) (es.take i);rw[List.length_map];rw[List.length_take] at this;omega
       have hi60:i<100:=by omega
       have wi:IntKind.i64.wrap ((i:Int)+1)=(i:Int)+1:=a0i (by omega) (by omega);clear r0 hr
       go_upto_region 18 with fail
       change Code.wp _ _ _ _ (wr.alloc (f5U ys[i]));have f0:=e0T hE;have f1:=e5p hE;have f5:=e5o hE;have x3:=a0a hX m3;have T4:=a0b (T3.out.later hX);have O4:=a0b (a1g OW.out hX);clear hE c0 c1 c2 c3 c4 c5 cc m3 T3 OW hX;generalize wr.alloc (f5U ys[i])=X at *;rw[HY.out] at f0 f1 f5;clear HY h60;have EB:Hid (a0z t es[i]=((es[i].kind != 1) && decide (es[i].a0Z=t))):=rfl;generalize a0z t es[i]=eb at *;generalize es[i].id=ei at *;generalize es[i].kind=kd at *;generalize es[i].a0Z=tl at *;generalize ((es.take i).filter (a0z t)).map (·.id)=L at *;simp only at x3
       by_cases b1:kd=1
       ·have b1':(kd != 1)=false:=by simp[b1]
        have NX:Hid (((es.take (i+1)).filter (a0z t)).map (·.id)=L):=by
         show _=_;rw[NXT.out,EB.out,b1'];simp
        clear b1 NXT EB
        go_big_region
        go_wp2_with fail
        exact⟨⟨i+1,HI1.out.1,by go_num,T4.out.later (d7M (zr _ _) _),Nat.le_trans hvs hXs,by rw[NX.out];exact a1g O4.out (d7M (zr _ _) _)⟩,by have:=HI1.out.2;simp[intOf];omega⟩
       ·have b1':(kd != 1)=true:=by simp[b1]
        by_cases b2:tl=t
        ·have b2':(tl==t)=true:=by simp[b2]
         have NX:Hid (((es.take (i+1)).filter (a0z t)).map (·.id)=L++[ei]):=by
          show _=_;rw[NXT.out,EB.out,b1'];simp[b2]
         have NB:Hid (∀ x∈(Value.slice va L.length vc).ownBlock.toList,N<=x):=fun x hx=>by
          have:=d0G O4.out (Option.mem_toList.1 hx);omega
         clear b1 b2 NXT EB
         go_big_region
         go_wp2_with (first|(at_builtin;refine g3H rfl _ _ rfl (a1g O4.out (d7M (zr _ _) _)) ei rfl rfl hll (Nat.le_trans hvs hXs) ?_;intro v' w2 o2 k2))
         exact⟨⟨i+1,HI1.out.1,by go_num,(T4.out.later (d7M (zr _ _) _)).new k2 NB.out,Nat.le_trans (Nat.le_trans hvs hXs) k2.size,by rw[NX.out];exact o2⟩,by have:=HI1.out.2;simp[intOf];omega⟩
        ·have b2':(tl==t)=false:=by simp[b2]
         have NX:Hid (((es.take (i+1)).filter (a0z t)).map (·.id)=L):=by
          show _=_;rw[NXT.out,EB.out,b1'];simp[b2]
         clear b1 b2 NXT EB
         go_big_region
         go_wp2_with fail
         exact⟨⟨i+1,HI1.out.1,by go_num,T4.out.later (d7M (zr _ _) _),Nat.le_trans hvs hXs,by rw[NX.out];exact a1g O4.out (d7M (zr _ _) _)⟩,by have:=HI1.out.2;simp[intOf];omega⟩
      ·have hie:i=es.length:=by omega
       subst hie;have hi':¬ ((es.length:Nat):Int)<(es.length:Int):=by omega
       rw[List.take_length] at OW ⊢;clear m3 hil hr;obtain⟨L,hL⟩:∃ L,L=(es.filter (a0z t)).map (·.id):=⟨_,rfl⟩;have HL:=a0b hL;rw[<- hL] at OW ⊢
       have h60:L.length<=60:=by
        have h1:es.length<=60:=T3.out.dd.el;have h2:=List.length_filter_le (a0z t) es;rw[hL,List.length_map];omega
       clear hL;have NE0:Hid (∀ b,(Value.slice va L.length vc).ownBlock=some b->V.heap.size<=b/\b<wr.heap.size):=fun b hb=>⟨d0G OW.out hb,c7O OW.out hb⟩
       obtain⟨i0,hi0,hz0,hz1,hz2⟩:=info_parts b1S
       go_upto_region 20 with fail
       obtain⟨U,hU⟩:∃ U,U=wr:=⟨_,rfl⟩;subst hU;clear cc hyl
       go_wp2_with fail
       go_loopw [12,13] (fun vj _ wx=>∃ (j:Nat) (zs:List (Ent × Nat × Nat)) (G:List Nat) (v6:Value) (M:Nat),j<=L.length/\vj=.int .i64 j/\RTk w d F xs tq ⟨s.ts,es.filter (fun e=>!(L.take j).contains e.id),s.given,t⟩ gr (en++L.take j) zs G (.slice a5 gr.length p5) v6 M wx/\wx.ownsRow V.heap.size 3 1 (.slice va L.length vc) L.length (L.map (Value.int .i64))/\(∀ b,(Value.slice va L.length vc).ownBlock=some b->b ∉ G/\v6.ownBlock≠some b)) (fun vj _ _=>L.length-(intOf vj).toNat)
       case atStart =>
        refine⟨0,ys,F',.slice a6 en.length p6,N,Nat.zero_le _,rfl,?_,OW.out,fun b hb=>⟨fun e=>?_,fun e=>?_⟩⟩
        ·simp only[List.take_zero,List.contains_nil,Bool.not_false,List.append_nil];rw[List.filter_eq_self.2 (fun _ _=>rfl)];exact T3.out
        ·have:=(T3.out.hF b e).1;have:=(NE0.out b hb).1;omega
        ·have:=(T3.out.a6 b e).1;have:=(NE0.out b hb).1;omega
       case round =>
        obtain⟨j,zs,G,v6,M,hjl,rfl,hT5,hrow,hne⟩:=hrel;have T5:=a0b hT5;have RW:=a0b hrow;have NE:=a0b hne;clear hT5 hrow hne;obtain⟨a6',p6',rfl⟩:=c9y T5.out.r6
        by_cases hj:j<L.length
        ·have hj':(j:Int)<(L.length:Int):=by omega
         obtain⟨g2,cap2,e,y⟩:=e4k RW.out (k:=j) (u:=.int .i64 L[j]) (by rw[List.getElem?_map,List.getElem?_eq_getElem hj];rfl);simp only[Value.slice.injEq,true_and] at e;obtain⟨rfl,rfl⟩:=e;have WO:=a0b (T5.out.dd.without L[j])
         go_wp2_with fail
         refine WO.out.mono ?_;rintro e w2 ⟨vE,rfl,hoE,hbE⟩;have T6:=a0b (T5.out.wo hoE hbE);obtain⟨aE,cE,rfl⟩:=c9y hoE;have D5:=(T5.out.later hbE).dd.rd;obtain⟨v0,cd1,_⟩:=D5.ev;have fd1:=D5.fz 1;have R6:Hid ((w2.setCell ⟨d,1,none⟩ (.slice aE (d2z L[j] zs).length cE)).ownsRow V.heap.size 3 1 (.slice (some ⟨g2,0,none⟩) L.length vc) L.length (L.map (Value.int .i64))):=a1i (a1g RW.out hbE) (Off.set0 ..) (fun b hb e=>(NE.out b hb).1 (by rw[List.mem_singleton.1 e];exact T5.out.dd.rd.dF))
         have NE6:Hid (∀ b,(Value.slice (some ⟨g2,0,none⟩) L.length vc).ownBlock=some b->b ∉ (Value.slice aE (d2z L[j] zs).length cE).ownBlock.toList++G/\(Value.slice a6' (en++L.take j).length p6').ownBlock≠some b):=fun b hb=>⟨fun e=>by
          rcases List.mem_append.1 e with e|e
          ·have:=d0G hoE (Option.mem_toList.1 e);have:=c7O RW.out hb;omega
          ·exact (NE.out b hb).1 e,(NE.out b hb).2⟩
         obtain⟨g2',cap2',e2,y2⟩:=e4k R6.out (k:=j) (u:=.int .i64 L[j]) (by rw[List.getElem?_map,List.getElem?_eq_getElem hj];rfl);simp only[Value.slice.injEq,Option.some.injEq,Addr.mk.injEq,true_and,and_true] at e2;obtain⟨rfl,rfl⟩:=e2;have kb6:=d0h T6.out.kb 6 rfl;have fb6:(w2.setCell ⟨d,1,none⟩ (.slice aE (d2z L[j] zs).length cE)).frozen? ⟨w.heap.size+1,6,none⟩=false:=by have:=T6.out.kb;simp[World.frozen?,this,rpB]
         have HTK:Hid (L.take (j+1)=L.take j++[L[j]]):=List.take_succ_eq_append_getElem hj
         have HEN:Hid ((en++L.take j).length<=1000):=by
          have:=HK.out.el;rw[Hid,List.length_append,List.length_take];omega
         obtain⟨K6,hK6⟩:∃ K6,K6=(en++L.take j).length:=⟨_,rfl⟩;have HK6:=a0b hK6;rw[<- hK6] at kb6 HEN;have R5:Hid ((w2.setCell ⟨d,1,none⟩ (.slice aE (d2z L[j] zs).length cE)).ownsRow (w.heap.size+2) 3 1 (.slice a6' K6 p6') K6 ((en++L.take j).map (Value.int .i64))):=by rw[hK6];exact T6.out.r6
         have HES:Hid (es.filter (fun e=>!(L.take (j+1)).contains e.id)=(es.filter (fun e=>!(L.take j).contains e.id)).filter (fun e=>e.id != L[j])):=by
          show _=_;rw[HTK.out];exact Desk.h0r ..
         have HJ:Hid (j+1<=L.length/\L.length-(j+1)<L.length-j):=by
          rw[Hid];omega
         have hj60:j<100:=by omega
         have hZs:w.heap.size+2<=(w2.setCell ⟨d,1,none⟩ (.slice aE (d2z L[j] zs).length cE)).heap.size:=T6.out.hN.1;clear WO y hoE hbE D5 T5 RW NE hK6
         go_upto_region 25 with fail
         clear cd1 fd1;generalize World.setCell w2 _ _=Z at *;generalize L[j]=z at *;have zA:∀ o,(Z.alloc o).cell? ⟨w.heap.size+1,6,none⟩=some (.slice a6' K6 p6'):=fun o=>a0a ((zr _ _).alloc (zq _) _) kb6
         have zB:∀ o,(Z.alloc o).drew.cell? ⟨w.heap.size+1,6,none⟩=some (.slice a6' K6 p6'):=zA
         have NB6:Hid (w.heap.size+1 ∉ (Value.slice a6' K6 p6').ownBlock.toList):=fun e=>by
          have:=d0G R5.out (Option.mem_toList.1 e);omega
         go_region_law (first
          |(refine step_append_lies _ rfl (.tmp 119) (.tmp 124) 38 rfl (w.heap.size+2) 3 i0 _ 1 8 Tryz.underlying38 hi0 hz0 hz1 hz2 rfl (by decide) (.slice a6' K6 p6') K6 ((en++L.take j).map (Value.int .i64)) rfl (b9R (R5.out.alloc _)) ⟨Z.heap.size,0,none⟩ 1 1 [.int .i64 z] rfl rfl (World.news_of_block (cs:=#[.int .i64 z]) (a0p Z _)) (by simp[Value.oneCell']) (by omega) (by have:=HEN.out;unfold maxLen;omega) (by have:=HEN.out;omega) (Nat.le_trans hZs ((zr _ Z).alloc (zq _) _).size) _ rfl ?_;intro g3 c3 w3 o3 k3 hat3 hlt3;have kO:Off (Value.slice a6' K6 p6').ownBlock.toList Z w3:=(((Off.refl _ Z).alloc _).drew).grown k3 (fun k hk=>.inl (by simp[hk]));have s6:=kO.cell NB6.out kb6;have sf:=(kO.frozen (o:=6) NB6.out (by omega)).trans fb6))
         all_goals
          go_wp2_with fail
          have HV:Hid (∀ b,(Value.slice (some ⟨g3,0,none⟩) (K6+1) c3).ownBlock=some b->(Value.slice a6' (en++L.take j).length p6').ownBlock=some b\/Z.heap.size<=b):=fun b hb=>by
           have e1:g3=b:=by simpa[Value.ownBlock] using hb
           rcases hat3 with q|q
           ·left;rw[<- e1,<- q,HK6.out]
           ·right;have:(Z.alloc (.cells #[.int .i64 z] 3)).drew.heap.size=Z.heap.size+1:=by simp
            omega
          refine⟨⟨j+1,d2z z zs,(Value.slice aE (d2z z zs).length cE).ownBlock.toList++G,.slice (some ⟨g3,0,none⟩) (K6+1) c3,(w3.setCell ⟨w.heap.size+1,6,none⟩ (.slice (some ⟨g3,0,none⟩) (K6+1) c3)).heap.size,HJ.out.1,by go_num,?_,?_,?_⟩,by have:=HJ.out.2;simp[intOf];omega⟩
          ·rw[HES.out,HTK.out,<- List.append_assoc];exact T6.out.add6 (l:=[z]) (by rw[List.length_append,<- HK6.out,List.map_append];exact o3) (by rw[<- HK6.out];exact kO) HV.out
          ·exact a1i (a1i R6.out kO (fun b hb e=>(NE6.out b hb).2 (by rw[<- HK6.out];exact Option.mem_toList.1 e))) (Off.set0 ..) (fun b hb e=>by
            have:=d0G R6.out hb;have:=List.mem_singleton.1 e;have:=HVN.out
            omega)
          ·intro b hb;refine⟨(NE6.out b hb).1,fun e=>?_⟩;rcases HV.out b e with q|q
           ·exact (NE6.out b hb).2 q
           ·have:=c7O R6.out hb;omega
        ·have hje:j=L.length:=by omega
         subst hje;have hj':¬ ((L.length:Nat):Int)<(L.length:Int):=by omega
         rw[List.take_length] at T5
         have HES:Hid (es.filter (fun e=>!L.contains e.id)=es.filter fun e=>!a0z t e):=by
          show _=_;rw[HL.out];exact Desk.h3B (fun e:Ent=>e.id) (a0z t) (HK.out.iv.ids.imp (fun h=>by omega))
         rw[HES.out] at T5;have GR:=a0b (f2a T5.out.dd)
         go_wp2_with fail
         refine GR.out.mono ?_;rintro e w3 ⟨v5,rfl,h5,⟨xs3,hD3,hB3⟩,hO3⟩;have T6:=a0b (T5.out.own hO3 hD3 hB3);obtain⟨gs,hgs⟩:∃ gs,gs=(a0R s.ts (es.filter fun e=>!a0z t e)).2:=⟨_,rfl⟩;have HGS:=a0b hgs;have h5':w3.ownsRow wr.heap.size 3 1 v5 gs.length (gs.map (Value.int .i64)):=by rw[hgs];exact h5
         have hgl:gs.length<=60:=by
          have h1:=Desk.b8x s.ts (es.filter fun e=>!a0z t e);have h2:=List.length_filter_le (fun e=>!a0z t e) es;have h3:=HK.out.el;rw[hgs];omega
         have hgr:gr.length<=3660:=by have:=HK.out.gl;omega
         clear h5 hgs;obtain⟨a7,p7,rfl⟩:=c9y h5';have n3:a2I w3 (w.heap.size+2) (fun _=>none) (.slice a5 gr.length p5) gr:=⟨T6.out.r5,fun _ _=>rfl⟩;have hwN:=T5.out.hN;have n5:a2I w3 (w.heap.size+2) (fun _=>none) (.slice a7 gs.length p7) gs:=⟨d7F h5' (by omega),fun _ _=>rfl⟩;have hz3:=hO3.size;obtain⟨v8,w4,hrun,n8,hgrow,hat⟩:=n3.append n5 (by omega) (fun _ _=>rfl) (by omega);obtain⟨a8,p8,rfl⟩:=c9y n8.own;have k4:Off (Value.slice a5 gr.length p5).ownBlock.toList w3 w4:=(Off.refl _ w3).grown hgrow (fun k hk=>.inl (by simp[hk]))
         have NB5:w.heap.size+1 ∉ (Value.slice a5 gr.length p5).ownBlock.toList:=fun e=>by
          have:=d0G T6.out.r5 (Option.mem_toList.1 e);omega
         have kb5:=d0h T6.out.kb 5 rfl;have s5:=k4.cell NB5 kb5
         have fb5:w4.frozen? ⟨w.heap.size+1,5,none⟩=false:=by
          refine (k4.frozen (o:=5) NB5 (by omega)).trans ?_;have:=T6.out.kb;simp[World.frozen?,this,rpB]
         have T7:=a0b (T6.out.add5 (l:=gs) n8.own k4 (fun b hb=>by
          rcases hat with q|q
          ·exact .inl (q ▸ hb)
          ·rw[q] at hb;simp only[Option.some.injEq] at hb
           exact .inr (by omega)))
         obtain⟨N8,hN8⟩:∃ N8,N8=(gr++gs).length:=⟨_,rfl⟩;rw[<- hN8] at hrun;have HR:=a0b hrun;obtain⟨hnt,k2,hM2⟩:=HK.out.step hlt (by omega) HTT.out
         have HM2:Hid (TkM s tq (a0R s.ts (es.filter fun e=>!a0z t e)).1 t (gr++gs) (en++L) k2):=by
          rw[HGS.out,HL.out];exact hM2
         have T8:Hid (RTk w d F xs tq ⟨s.ts,(a0R s.ts (es.filter fun e=>!a0z t e)).1,s.given,t⟩ (gr++gs) (en++L) xs3 G (.slice a8 N8 p8) (.slice a6' (en++L).length p6') (w4.setCell ⟨w.heap.size+1,5,none⟩ (.slice a8 N8 p8)).heap.size (w4.setCell ⟨w.heap.size+1,5,none⟩ (.slice a8 N8 p8))):=by
          rw[hN8];exact T7.out
         have HM3:Hid ((tq-t).toNat<(tq-now).toNat):=by
          rw[Hid];omega
         clear hM2 T7 n3 n5 hgrow hat k4 NB5 hrun hN8 n8 hO3 hD3 hB3 h5'
         go_wp2_with (first|(at_builtin;refine d6i rfl _ _ 38 _ rfl (HR.out _) ?_))
         refine⟨⟨_,t,_,_,k2,xs3,G,_,_,_,T8.out,HM2.out⟩,?_⟩
         have e8:g9Y (w4.setCell ⟨w.heap.size+1,5,none⟩ (.slice a8 N8 p8)) d=t:=by
          unfold g9Y;rw[T8.out.dd.rd.c3];rfl
         rw[e8,HNW.out];exact HM3.out
  ·have hnt:now=tq:=by have:=HK.out.nt;omega
   have HF:Hid (d1S w d F xs (a0g s (.tick n)) (.returned (a0s 0 0 tq c7N c7N (.slice a5 gr.length p5) (.slice a6 en.length p6))) (a2w wr w.heap.size (.int .i64 0) (.int .i64 0) (.int .i64 tq) c7N c7N (.slice a5 gr.length p5) (.slice a6 en.length p6))):=by
    have e:=HK.out.eq;rw[Desk.g8x hlt] at e;rw[HD.out,e,<- hnt];simp only[List.append_nil];have:=HT.out.ans (.int .i64 0) (.int .i64 0) (.int .i64 now) c7N c7N (.slice a5 gr.length p5) (.slice a6 en.length p6);rw[<- hnt] at this;exact this
   obtain⟨q0,q1,q2,q3,q4,q5,q6,fq⟩:=Q7.of HT.out.kq;have kb:=HT.out.kb;have r0:=d0h kb 0 rfl;have r1:=d0h kb 1 rfl;have r2:=d0h kb 2 rfl;have r3:=d0h kb 3 rfl;have r4:=d0h kb 4 rfl;have r5:=d0h kb 5 rfl;have r6:=d0h kb 6 rfl;clear kb
   go_wp2_with fail
   exact d0O Tryz.results176 ⟨q0,q1,q2,q3,q4,q5,q6,fq⟩ HF.out
open Desk (Ent St Rep a0g b7U a2E)
theorem f4a{α:Type}(fs:List Int)(ys:List α)(hl:fs.length=ys.length):∃ zs:List α,zs.length=ys.length/\∀ (i:Nat)(hi:i<ys.length),zs[Rank.e3Z fs i]?=some ys[i]:=by
 have hr:∀ p:Fin ys.length,∃ i,i<ys.length/\Rank.e3Z fs i=p.1:=fun p=>by
  obtain⟨i,h1,h2⟩:=Rank.d5F fs (k:=p.1) (by rw[hl];exact p.2);exact⟨i,by omega,h2⟩
 refine⟨List.ofFn fun p:Fin ys.length=>ys[Classical.choose (hr p)]'(Classical.choose_spec (hr p)).1,by simp,fun i hi=>?_⟩;have hk:Rank.e3Z fs i<ys.length:=by rw[<- hl];exact Rank.e6F fs (by omega)
 rw[List.getElem?_ofFn,dif_pos hk,Option.some.injEq];have h2:=Classical.choose_spec (hr ⟨Rank.e3Z fs i,hk⟩);have e:=Rank.e1x (fs:=fs) (by rw[hl];exact h2.1) (by omega) h2.2;simp only[e]
def g0s(cs:Array Value)(p:Nat)(a b c d e f:Value):Array Value:=(((((cs.setIfInBounds (p*6) a).setIfInBounds (p*6+1) b).setIfInBounds (p*6+2) c).setIfInBounds (p*6+3) d).setIfInBounds (p*6+4) e).setIfInBounds (p*6+5) f
theorem f8r(cs:Array Value)(p:Nat)(a b c d e f:Value)(hp:p*6+5<cs.size)(q j:Nat)(hj:j<6):(g0s cs p a b c d e f)[q*6+j]?=if q=p then [a,b,c,d,e,f][j]? else cs[q*6+j]?:=by
 unfold g0s
 by_cases hq:q=p
 ·subst hq;rw[if_pos rfl];rcases (show j=0\/j=1\/j=2\/j=3\/j=4\/j=5 by omega) with rfl|rfl|rfl|rfl|rfl|rfl
  all_goals
   simp only[Array.getElem?_setIfInBounds,Array.size_setIfInBounds];simp
   try omega
 ·rw[if_neg hq];simp only[Array.getElem?_setIfInBounds,Array.size_setIfInBounds];rw[if_neg (by omega),if_neg (by omega),if_neg (by omega),if_neg (by omega),if_neg (by omega),if_neg (by omega)]
theorem f4b(cs:Array Value)(p:Nat)(a b c d e f:Value):(g0s cs p a b c d e f).size=cs.size:=by simp[g0s]
theorem f4c{cs:Array Value}{t:TypeId}{m:Nat × Nat}(h:W.heap[O]?=some (.cells cs t m))(p:Nat)(a b c d e f:Value):((((((W.setCell ⟨O,p*6,none⟩ a).setCell ⟨O,p*6+1,none⟩ b).setCell ⟨O,p*6+2,none⟩ c).setCell ⟨O,p*6+3,none⟩ d).setCell ⟨O,p*6+4,none⟩ e).setCell ⟨O,p*6+5,none⟩ f).heap[O]?=some (.cells (g0s cs p a b c d e f) t m) :=
 d1X (d1X (d1X (d1X (d1X (d1X h a) b) c) d) e) f
theorem d9z.off{wr:World}{ys:List (Ent × Nat × Nat)}(h:d9z w wr v ys)(k:Off [O] wr wx)(hO:wr.heap.size<=O):d9z w wx v ys:=by
 refine⟨a1i h.own k (fun b hb e=>by have:=c7O h.own hb;simp at e;omega),fun y hy=>?_,⟨k.os.trans h.bw.os,k.tape.trans h.bw.tape,k.output.trans h.bw.output,Nat.le_trans h.bw.size k.size,fun b hb=>(k.block b (zL hb h.bw.size) (fun e=>by have:=h.bw.size;simp at e;omega)).trans (h.bw.block b hb)⟩⟩;obtain⟨y1,y2,y3,y4⟩:=h.sl y hy;exact⟨y1.off k (by simp;omega),y2,Nat.lt_of_lt_of_le y3 k.size,y4⟩
theorem e4t{xs:List (Ent × Nat × Nat)}(h:DD w d s xs F)(hid:Desk.Ids s.es)(name:ByteArray)(fr til:Int):
  Calls Tryz.prog 235 #[.pointer (some ⟨d,0,none⟩),.string name,.int .i64 fr,.int .i64 til] w fun e w'=>∃ v,e=.returned v/\e2K w v (Desk.a2x name fr til s.es) w':=by
 obtain⟨i0,hi0,hz0,hz1,hz2⟩:=info_parts e2i;have H:=a0b h;have hlen:=h.len;have hel:=h.el;clear h
 go_enter Tryz.func235,Tryz.ntmps235
 go_wp2_with fail
 go_loopw [9,10,11,12] (fun v i _ _ wx=>∃ k:Nat,k<=xs.length/\i=.int .i64 k/\∃ ys,d9z w wx v ys/\ys.length<=k/\(∀ y∈ys,EB y.1)/\ys.map (·.1)=((xs.take k).map (·.1)).filter (b7U name fr til)) (fun _ i _ _ _=>xs.length-(intOf i).toNat)
 case atStart=>exact⟨0,Nat.zero_le _,rfl,[],⟨World.ownsRow_nil _ _ _ _,by simp,Below.refl _ _⟩,by simp,by simp,by simp⟩
 case round =>
  obtain⟨k,hk,rfl,ys,hR,hyl,hye,hys⟩:=hrel;have hD:=H.out.later hR.bw;obtain⟨a,cap,E,hr⟩:=hD.er;have cc:=hr.c;have HR:=a0b (And.intro hR (And.intro hys hye))
  by_cases hlt:k<xs.length
  ·obtain rfl:=hr.a k hlt;have r0:=hr.r k hlt;have c0:=r0.c0;have c1:=r0.c1;have c2:=r0.c2;have c3:=r0.c3;have c4:=r0.c4;have c5:=r0.c5;have hi:(k:Int)<(xs.length:Int):=by omega
   have heb:=H.out.en xs[k].1 (H.out.es ▸ List.mem_map.2 ⟨_,List.getElem_mem hlt,rfl⟩);have hX:Below wr.heap.size wr (wr.alloc (f5U xs[k])):=(zr _ _).alloc (zq _) _;have hE:(wr.alloc (f5U xs[k])).heap[wr.heap.size]?=some (f5U xs[k]):=a0p _ _
   have ht:(xs.take (k+1)).map (·.1)=(xs.take k).map (·.1)++[xs[k].1]:=by rw[List.take_succ_eq_append_getElem hlt,List.map_append];rfl
   have HT:=a0b ht;have RX:=a0b (And.intro (hR.later hX) (And.intro (r0.sl.later hX) (And.intro heb hX)));have hsl:0<xs[k].1.a0e.length/\xs[k].1.a0e.length<=1000:=⟨List.length_pos_iff.2 heb.s0,by have:=heb.sl;omega⟩;have FA:=a0b (d8X xs[k] fr til _ RX.out.2.1 (by omega))
   have hst:b7U name fr til xs[k].1=false->ys.map (·.1)=((xs.take (k+1)).map (·.1)).filter (b7U name fr til):=fun h=>by rw[ht,List.filter_append,hys];simp[h]
   have ST:=a0b hst
   go_upto_region 6 with fail
   change Code.wp _ _ _ _ (wr.alloc (f5U xs[k]));have f0:=e0T hE;have f1:=e5p hE;have f2:=e0S hE;have f3:=e0R hE;have f4:=e0P hE;have f5:=e5o hE;have hN:wr.heap.size<(wr.alloc (f5U xs[k])).heap.size:=by simp
   clear hR hys hye hD hr r0 ht heb hX c0 c1 c2 c3 c4 c5 cc hst;generalize wr.alloc (f5U xs[k])=X at *
   go_wp2_with fail
   refine FA.out.mono ?_;rintro e w4 ⟨rfl,hb4⟩;have bb:=(hb4.block wr.heap.size hN).trans hE;have R4:=a0b (And.intro (RX.out.1.later hb4) (RX.out.2.1.later hb4));have f0:=e0T bb;have f1:=e5p bb;have f2:=e0S bb;have f3:=e0R bb;have f4:=e0P bb;have f5:=e5o bb;have SEL:Hid (b7U name fr til xs[k].1=((xs[k].1.a0k.toList==name.toList) && (xs[k].1.kind != 3) && decide (0<=a2E fr til xs[k].1.a0e))):=rfl;generalize a2E fr til xs[k].1.a0e=ff at *;clear hb4 FA hE
   have hno:b7U name fr til xs[k].1=false->∃ k_1:Nat,k_1<=xs.length/\(Value.int .i64 ((k:Int)+1))=.int .i64 k_1/\∃ ys,d9z w w4 u9 ys/\ys.length<=k_1/\(∀ y∈ys,EB y.1)/\ys.map (·.1)=((xs.take k_1).map (·.1)).filter (b7U name fr til) :=
    fun h=>⟨k+1,by omega,rfl,ys,R4.out.1,by omega,HR.out.2.2,ST.out h⟩
   have NO:=a0b hno;clear hno
   cases q1:(xs[k].1.a0k.toList==name.toList)
   ·have N1:=a0b (NO.out (by rw[SEL.out,q1];rfl))
    go_wp2_with fail
    go_roundw
    case rel=>exact N1.out
    case measure=>simp[intOf];omega
   ·cases q2:(xs[k].1.kind != 3)
    ·have N1:=a0b (NO.out (by rw[SEL.out,q2];simp))
     go_wp2_with fail
     go_roundw
     case rel=>exact N1.out
     case measure=>simp[intOf];omega
    ·by_cases q3:0<=ff
     ·have S1:Hid (b7U name fr til xs[k].1=true):=by show _=_;rw[SEL.out,q1,q2];simpa using q3
      have CP:=a0b (f2w xs[k] w4 R4.out.2 hsl.1 hsl.2)
      go_wp2_with fail
      refine CP.out.mono ?_;rintro e w5 ⟨gq,cq,rfl,a1,a2,a3,hb5⟩;simp only[c7a];have R5:=a0b (R4.out.1.later hb5);have hne:u9.ownBlock≠some gq:=fun e=>by have:=c7O R4.out.1.own e;omega
      have Q5:=a0b (And.intro a1 (And.intro (Nat.le_trans R4.out.1.bw.size a2) (And.intro a3 hne)));have hbz:=R5.out.bw.size;clear hb5 a1 a2 a3 hne f0 f1 f2 f3 f4 f5 CP q1 q2 bb
      go_wp2_with (first|(at_builtin;refine g3I rfl _ _ rfl R5.out.own (xs[k].1,gq,cq) rfl rfl (by omega) hbz ?_;intro g6 c6 w6 ho6 k6 hat6))
      have R6:=a0b (R5.out.snoc Q5.out ho6 k6 hat6);clear ho6 k6 hat6;go_roundw
      case rel =>
       refine⟨k+1,by omega,by go_num,_,R6.out,by simp;omega,fun y hy=>?_,by rw[List.map_append,HR.out.2.1,HT.out,List.filter_append];simp[S1.out]⟩;rcases List.mem_append.1 hy with hy|hy
       ·exact HR.out.2.2 y hy
       ·have:y=(xs[k].1,gq,cq):=by simpa using hy
        subst this;exact RX.out.2.2.1
      case measure=>simp[intOf];omega
     ·have N1:=a0b (NO.out (by rw[SEL.out];simp;omega))
      go_wp2_with fail
      go_roundw
      case rel=>exact N1.out
      case measure=>simp[intOf];omega
  ·have e:xs.take k=xs:=List.take_of_length_le (by omega);have hi:¬ (k:Int)<(xs.length:Int):=by omega
   have hfl:ys.map (·.1)=s.es.filter (b7U name fr til):=by rw[hys,e,H.out.es]
   have hyn:ys.length<=60:=by omega
   obtain⟨ay,cy,rfl⟩:=c9y hR.own;have HYS:=a0b (And.intro hR (And.intro hfl hye));clear hR hys hye hD hr e HR
   by_cases hz:ys.length=0
   ·have h0:ys=[]:=List.length_eq_zero_iff.1 hz
    have HF:Hid (e2K w c7N (Desk.a2x name fr til s.es) wr):=by
     refine⟨[],[],?_,fun w2 _=>EV.nil w2,by simp,HYS.out.1.bw⟩;have:=HYS.out.2.1;rw[h0] at this;unfold Desk.a2x;rw[<- this];rfl
    have hz':((ys.length:Int)==0)=true:=by simp[hz]
    go_wp2_with fail
    go_ret;exact⟨_,rfl,HF.out⟩
   ·have hz':((ys.length:Int)==0)=false:=by simp[hz]
    have hn0:0<ys.length:=by omega
    have hmk:=run_make (P:=Tryz.prog) wr 34 58 i0 _ Tryz.underlying34 hi0 hz0 .i64 .i64 ys.length ys.length (by omega) (Int.le_refl _) (by rw[hz2];omega) (by omega);simp only[Int.toNat_natCast] at hmk;obtain⟨cs0,hcs0⟩:∃ cs0,cs0=madeCells (Value.agg #[.int .i64 0,.int .i64 0,.string ⟨#[]⟩,.int .i64 0,.slice none 0 0,.int .i64 0]).cells (ys.length*i0.size):=⟨_,rfl⟩;rw[<- hcs0] at hmk;have hc0:cs0.size=ys.length*6:=by rw[hcs0,size_madeCells,hz1]
    clear hcs0;obtain⟨a',cap',gl,he,_,ha,_⟩:=e1F HYS.out.1.own (fun y hy=>(HYS.out.1.sl y hy).1);simp only[Value.slice.injEq,true_and] at he;obtain⟨rfl,rfl⟩:=he;obtain rfl:=ha (by intro e;simp[e] at hn0)
    have KEY:Hid (∀ wx,Off [wr.heap.size] wr wx->∀ (i:Nat) (hi:i<ys.length),RE wx gl i ys[i].1 ys[i].2.1 ys[i].2.2):=fun wx k=>by
     have R:=HYS.out.1.off k (zq _);obtain⟨a2,c2,g2,he,_,ha2,hr2⟩:=e1F R.own (fun y hy=>(R.sl y hy).1);have:=ha2 (by intro e;simp[e] at hn0);simp only[Value.slice.injEq,this,Option.some.injEq,Addr.mk.injEq] at he;obtain⟨⟨rfl,_⟩,_⟩:=he;exact hr2
    obtain⟨fs,hfs⟩:∃ fs,fs=Desk.d3X fr til (ys.map (·.1)):=⟨_,rfl⟩
    have FS:Hid (fs.length=ys.length/\∀ (i:Nat) (hi:i<ys.length),fs.getD i 0=a2E fr til ys[i].1.a0e):=by
     rw[hfs];refine⟨by simp[Desk.d3X],fun i hi=>?_⟩;rw[Desk.d6H (by simpa using hi)];simp
    have HFS:=a0b hfs;have YE:Hid (∀ (i:Nat) (hi:i<ys.length),ys[i].1.a0e.length<=1000):=fun i hi=>by have:=(HYS.out.2.2 ys[i] (zg hi)).sl;omega
    clear hfs ha
    go_upto_region 12 with fail
    have hO:=a0p wr (.cells cs0 58);have kO:Off [wr.heap.size] wr (wr.alloc (.cells cs0 58)):=(Off.refl _ _).alloc _;have OO:=a0b (And.intro kO hO);clear hmk kO hO cc;generalize wr.alloc (.cells cs0 58)=Wo at *;have hgO:gl<wr.heap.size:=c7O HYS.out.1.own rfl;obtain⟨O,hOe⟩:∃ O,O=wr.heap.size:=⟨_,rfl⟩;rw[<- hOe] at OO KEY hgO ⊢;have HOE:=a0b hOe;clear hOe;obtain⟨W1,hW1⟩:∃ W1,W1=wr:=⟨_,rfl⟩;subst hW1
    go_wp2_with fail
    go_loopw [14,15,16,17,18] (fun i _ _ _ _ wx=>∃ j:Nat,j<=ys.length/\i=.int .i64 j/\∃ cs,Off [O] W1 wx/\wx.heap[O]?=some (.cells cs 58)/\cs.size=ys.length*6/\∀ (j':Nat) (_:j'<j) (hl:j'<ys.length) (c:Nat),c<6->cs[Rank.e3Z fs j'*6+c]?=(c7a ys[j'])[c]?) (fun i _ _ _ _ _=>ys.length-(intOf i).toNat)
    case atStart=>exact⟨0,Nat.zero_le _,rfl,cs0,OO.out.1,OO.out.2,hc0,fun j' h=>by omega⟩
    case round =>
     obtain⟨j,hj,rfl,cs,hof,hcs,hsz,hfill⟩:=hrel;have HC:=a0b (And.intro hof (And.intro hcs (And.intro hsz hfill)))
     by_cases hjl:j<ys.length
     ·have r0:=KEY.out _ hof j hjl;have c0:=r0.c0;have c1:=r0.c1;have c2:=r0.c2;have c3:=r0.c3;have c4:=r0.c4;have c5:=r0.c5;have hi2:(j:Int)<(ys.length:Int):=by omega
      have FA:=a0b (d8X ys[j] fr til _ r0.sl (by have:=YE.out j hjl;omega));have FJ:=FS.out.2 j hjl;rw[<- FJ] at FA;clear hof hcs hsz hfill r0 FJ
      go_wp2_with fail
      refine FA.out.mono ?_;rintro e w4 ⟨rfl,hb4⟩;have H4:Hid (Off [O] W1 w4/\w4.heap[O]?=some (.cells cs 58)):=⟨HC.out.1.trans (Off.of_below hb4),(hb4.block _ (Array.getElem?_eq_some_iff.1 HC.out.2.1).1).trans HC.out.2.1⟩;obtain⟨fj,hfj⟩:∃ fj,fj=fs.getD j 0:=⟨_,rfl⟩;rw[<- hfj];have HFJ:=a0b hfj;clear hb4 FA c0 c1 c2 c3 c4 c5 hfj
      go_wp2_with fail
      go_loopw [15,17,18] (fun at_ i _ wx=>∃ q:Nat,q<=ys.length/\i=.int .i64 q/\at_=.int .i64 (Rank.upto fs j q:Nat)/\Off [O] W1 wx/\wx.heap[O]?=some (.cells cs 58)) (fun _ i _ _=>ys.length-(intOf i).toNat)
      case atStart=>exact⟨0,Nat.zero_le _,rfl,rfl,H4.out⟩
      case round =>
       obtain⟨q,hq,rfl,rfl,hof,hcs⟩:=hrel;have hup:=Rank.e5Z fs j q
       by_cases hql:q<ys.length
       ·have r0:=KEY.out _ hof q hql;have c0:=r0.c0;have c1:=r0.c1;have c2:=r0.c2;have c3:=r0.c3;have c4:=r0.c4;have c5:=r0.c5;have hi3:(q:Int)<(ys.length:Int):=by omega
        have FA:=a0b (d8X ys[q] fr til _ r0.sl (by have:=YE.out q hql;omega));have FJ:=FS.out.2 q hql;rw[<- FJ] at FA;have UP:Hid (Rank.upto fs j (q+1)=Rank.upto fs j q+if Rank.before fs q j then 1 else 0):=Rank.d3x fs j q;have BF:Hid (Rank.before fs q j=(decide (fs.getD q 0<fj) || (decide (fs.getD q 0=fj) && decide (q<j)))):=by show _=_;rw[HFJ.out];rfl
        have HO:=a0b (And.intro hof hcs);clear hof hcs r0 FJ
        go_wp2_with fail
        refine FA.out.mono ?_;rintro e w5 ⟨rfl,hb5⟩;have H5:Hid (Off [O] W1 w5/\w5.heap[O]?=some (.cells cs 58)):=⟨HO.out.1.trans (Off.of_below hb5),(hb5.block _ (Array.getElem?_eq_some_iff.1 HO.out.2).1).trans HO.out.2⟩;generalize fs.getD q 0=fq at *;generalize Rank.upto fs j q=uq at *;clear hb5 FA c0 c1 c2 c3 c4 c5;have hyes:Rank.before fs q j=true->∃ q_1:Nat,q_1<=ys.length/\(Value.int .i64 ((q:Int)+1))=.int .i64 q_1/\(Value.int .i64 ((uq:Int)+1))=.int .i64 (Rank.upto fs j q_1:Nat)/\Off [O] W1 w5/\w5.heap[O]?=some (.cells cs 58):=fun h=>⟨q+1,by omega,rfl,by rw[UP.out,h];rfl,H5.out⟩
        have hnot:Rank.before fs q j=false->∃ q_1:Nat,q_1<=ys.length/\(Value.int .i64 ((q:Int)+1))=.int .i64 q_1/\(Value.int .i64 (uq:Int))=.int .i64 (Rank.upto fs j q_1:Nat)/\Off [O] W1 w5/\w5.heap[O]?=some (.cells cs 58):=fun h=>⟨q+1,by omega,rfl,by rw[UP.out,h];rfl,H5.out⟩
        have HY:=a0b hyes;have HN:=a0b hnot;clear hyes hnot
        by_cases a1:fq<fj
        ·have Y1:=a0b (HY.out (by rw[BF.out];simp[a1]))
         go_wp2_with fail
         go_roundw
         case rel=>exact Y1.out
         case measure=>simp[intOf];omega
        ·by_cases a2:fq=fj
         ·have a2':(fq==fj)=true:=by simpa using a2
          by_cases a3:q<j
          ·have Y1:=a0b (HY.out (by rw[BF.out];simp[a2,a3]));have a3':(q:Int)<(j:Int):=by omega
           clear a2
           go_wp2_with fail
           go_roundw
           case rel=>exact Y1.out
           case measure=>simp[intOf];omega
          ·have Y1:=a0b (HN.out (by rw[BF.out];simp[a1,a3]));have a3':¬ (q:Int)<(j:Int):=by omega
           clear a2
           go_wp2_with fail
           go_roundw
           case rel=>exact Y1.out
           case measure=>simp[intOf];omega
         ·have a2':(fq==fj)=false:=by simpa using a2
          have Y1:=a0b (HN.out (by rw[BF.out];simp[a1,a2]));clear a2
          go_wp2_with fail
          go_roundw
          case rel=>exact Y1.out
          case measure=>simp[intOf];omega
       ·have e:Rank.upto fs j q=Rank.e3Z fs j:=by unfold Rank.e3Z;rw[FS.out.1,show q=ys.length by omega]
        have hi3:¬ (q:Int)<(ys.length:Int):=by omega
        have hrk:=Rank.e6F fs (i:=j) (by rw[FS.out.1];exact hjl);rw[FS.out.1] at hrk;rw[e];have r0:=KEY.out _ hof j hjl;have c0:=r0.c0;have c1:=r0.c1;have c2:=r0.c2;have c3:=r0.c3;have c4:=r0.c4;have c5:=r0.c5;have hsz:=HC.out.2.2.1;have hji:(j:Int)<(ys.length:Int):=by omega
        obtain⟨p,hp⟩:∃ p,p=Rank.e3Z fs j:=⟨_,rfl⟩;rw[<- hp] at hrk ⊢;have HP:=a0b hp;have hpi:(p:Int)<(ys.length:Int):=by omega
        have oc:∀ c,c<6->∃ v,wr.cell? ⟨O,p*6+c,none⟩=some v:=fun c hc=>by
         have h9:p*6+c<cs.size:=by omega
         exact⟨cs[p*6+c],by simp[World.cell?,hcs,h9]⟩
        obtain⟨v0,o0⟩:=oc 0 (by omega);obtain⟨v1,o1⟩:=oc 1 (by omega);obtain⟨v2,o2⟩:=oc 2 (by omega);obtain⟨v3,o3⟩:=oc 3 (by omega);obtain⟨v4,o4⟩:=oc 4 (by omega);obtain⟨v5,o5⟩:=oc 5 (by omega);rw[Nat.add_zero] at o0;have of:=f0l hcs;have hgO':gl≠O:=by have:=HOE.out;omega
        have HO:=a0b (And.intro hof hcs);clear hof hcs r0 hp oc e hsz
        go_wp2_with fail
        go_roundw
        case rel =>
         refine⟨j+1,by omega,by go_num,g0s cs p (.int .i64 ys[j].1.id) (.int .i64 ys[j].1.kind) (.string ys[j].1.a0k) (.int .i64 ys[j].1.a0c) (.slice (some ⟨ys[j].2.1,0,none⟩) ys[j].1.a0e.length ys[j].2.2) (.int .i64 ys[j].1.a0Z),((((((HO.out.1.setCell (.inl (by simp)) _ _).setCell (.inl (by simp)) _ _).setCell (.inl (by simp)) _ _).setCell (.inl (by simp)) _ _).setCell (.inl (by simp)) _ _).setCell (.inl (by simp)) _ _),f4c HO.out.2 p _ _ _ _ _ _,by rw[f4b];exact HC.out.2.2.1,fun j' h1 h2 c h3=>?_⟩;rw[f8r _ _ _ _ _ _ _ _ (by have:=HC.out.2.2.1;omega) _ _ h3]
         by_cases e1:j'=j
         ·subst e1;rw[HP.out,if_pos rfl];rfl
         ·rw[if_neg,HC.out.2.2.2 j' (by omega) h2 c h3];intro e2;rw[HP.out] at e2;exact e1 (Rank.e1x (fs:=fs) (by rw[FS.out.1];exact h2) (by rw[FS.out.1];exact hjl) e2)
        case measure=>simp[intOf];omega
     ·have hi2:¬ (j:Int)<(ys.length:Int):=by omega
      have HF:Hid (e2K w (.slice (some ⟨O,0,none⟩) ys.length ys.length) (Desk.a2x name fr til s.es) wr):=by
       obtain⟨zs,hzl,hzr⟩:=f4a fs ys FS.out.1;have R:=HYS.out.1.off hof (by rw[HOE.out];exact zq _)
       have hmem:∀ z∈zs,z∈ys:=fun z hz=>by
        obtain⟨p,hp,rfl⟩:=List.getElem_of_mem hz;obtain⟨i,hi,e⟩:=Rank.d5F fs (k:=p) (by rw[FS.out.1];omega);have:=hzr i (by rw[<- FS.out.1];exact hi);rw[e,List.getElem?_eq_getElem hp,Option.some.injEq] at this;rw[this];exact zg _
       have hO2:O<wr.heap.size:=(Array.getElem?_eq_some_iff.1 hcs).1;have T:=g0R (w:=w) (w':=wr) (g:=O) (cap:=ys.length) (a:=some ⟨O,0,none⟩) (zs:=zs) (fun _=>rfl) (fun p hp=>?_) (fun _=>⟨by have:=HYS.out.1.bw.size;have:=HOE.out;omega,hO2⟩) (fun z hz=>⟨(R.sl z (hmem z hz)).2.1,(R.sl z (hmem z hz)).2.2.1⟩) R.bw
       ·rw[hzl] at T;have e1:=Desk.b3f (name:=name) (a:=fr) (b:=til) (es:=s.es) (out:=zs.map (·.1)) hid
        obtain⟨p1,p2⟩:=Desk.f3Z (a:=fr) (b:=til) (l:=ys.map (·.1)) (out:=zs.map (·.1)) (by rw[HYS.out.2.1];exact Desk.a5J _ hid) (by simp[hzl]) (fun i hi=>by
         have hi':i<ys.length:=by simpa using hi
         rw[<- HFS.out,List.getElem?_map,hzr i hi'];simp)
        rw[e1 p1 (fun e=>by rw[p2 e,HYS.out.2.1])] at T;exact T
       ·obtain⟨i,hi,e⟩:=Rank.d5F fs (k:=p) (by rw[FS.out.1];omega);have hi':i<ys.length:=by rw[<- FS.out.1];exact hi
        have hz:=hzr i hi';rw[e,List.getElem?_eq_getElem hp,Option.some.injEq] at hz
        have cl:∀ c,c<6->wr.cell? ⟨O,p*6+c,none⟩=(c7a zs[p])[c]?:=fun c hc=>by
         have:=hfill i (by omega) hi' c hc;rw[e] at this;rw[hz,<- this];simp[World.cell?,hcs]
        exact⟨cl 0 (by omega),cl 1 (by omega),cl 2 (by omega),cl 3 (by omega),cl 4 (by omega),cl 5 (by omega),(R.sl zs[p] (hmem _ (zg hp))).1⟩
      clear hof hcs hsz hfill
      go_wp2_with fail
      go_ret;exact⟨_,rfl,HF.out⟩
theorem DD.tells{X:World}{xs:List (Ent × Nat × Nat)}(h:DD w d s xs F)(kX:Below w.heap.size w X)(T:e2K X v es Z)(hQ:w.heap.size<=Q)(hQX:Q<X.heap.size)(a b c e f g i:Value):d1S w d F xs (s,{ Rep.num 0 with entries:=es }) (.returned (a0s 0 0 0 v c7N c7N c7N)) (a2w Z Q a b c e f g i):=by
 obtain⟨l,G,hl,hE,hG,kZ⟩:=T;have k7:=a2R Z Q a b c e f g i;have kw:Below w.heap.size w Z:=a0j kX kZ (zq _);have hF:∀ x,x<w.heap.size->x ∉ [Q]:=fun x hx e=>by simp at e;omega
 have hGQ:∀ x∈G,x ∉ [Q]:=fun x hx e=>by have:=(hG x hx).1;simp at e;omega
 refine⟨v,c7N,c7N,c7N,xs,F,G,rfl,fun w2 h2=>⟨⟨l,hE w2 (fun x hx=>(h2 x hx).trans (k7.block x (hG x hx).2 (hGQ x hx))),hl⟩,NV.nil _,NV.nil _⟩,World.ownsRow_nil _ _ _ _,(h.later kw).off k7 (fun x hx=>hF x (h.lt x hx)) (fun x hx=>hF _ (h.rd.sp x hx).2.2),fun _ hx=>.inl hx,(Off.of_below kw).trans' k7 (fun x hx=>.inr (by simp at hx;omega)),fun x hx=>?_,fun x hx=>by simp[Value.ownBlock] at hx,fun x hx=>.inl ⟨x,hx,rfl⟩⟩;have h1:=hG x hx;have h2:=kX.size;exact⟨by omega,Nat.lt_of_lt_of_le h1.2 k7.size,fun e=>by have:=h.lt x e;omega,by simp[Value.ownBlock]⟩
theorem e2K.bw(h:e2K w v es w'):Below w.heap.size w w':=by obtain⟨_,_,_,_,_,k⟩:=h;exact k
theorem e2K.form(h:e2K w v es w'):∃ a cap,v=.slice a es.length cap:=by
 obtain⟨l,G,hl,hE,_⟩:=h;obtain⟨a,c,e⟩:=(hE w' (fun _ _=>rfl)).form;exact⟨a,c,by rw[<- hl,List.length_map];exact e⟩
def g4x(b:Bool)(name:ByteArray)(fr til:Int):Desk.a7U:=if b then .list name fr til else .peak name fr til
def g5f(w:World)(g n:Nat)(b:Bool)(fr til:Int):Prop:=(n=2/\b=true/\fr=0/\til=1048320)\/(3<n/\∃ t u:ByteArray,t.size<=160/\u.size<=160/\w.cell? ⟨g,2,none⟩=some (.string t)/\w.cell? ⟨g,3,none⟩=some (.string u)/\g2T t=fr/\g2T u=til)
theorem d9v{xs:List (Ent × Nat × Nat)}(h:DD w d s xs F)(hid:Desk.Ids s.es){b:Bool}{til:Int}(hb:(kw.toList==[108,105,115,116])=b)(hn:1<n)(ht:g5f w g n b fr til)(h0:w.cell? ⟨g,0,none⟩=some (.string kw))(h1:w.cell? ⟨g,1,none⟩=some (.string name)):
  Calls Tryz.prog 177 #[.pointer (some ⟨d,0,none⟩),.slice (some ⟨g,0,none⟩) n c] w (d1S w d F xs (a0g s (g4x b name fr til))):=by
 have P0:=a0b ((KP.nil w).alloc a0f);have H:=a0b h;have i0:(0:Int)<(n:Int):=by omega
 have i1:(1:Int)<(n:Int):=by omega
 have y0:=a0a P0.out.bl h0;have y1:=a0a P0.out.bl h1;have hQ:w.heap.size<(w.alloc a0f).heap.size:=by simp
 have HD:Hid (a0g s (g4x b name fr til)=if Desk.a0h name s.ts=0 then (s,.error 3) else if til<=fr then (s,.error 6) else if b then (s,{ Rep.num 0 with entries:=Desk.a2x name fr til s.es }) else (s,.num (Desk.a1Q name s.es fr til))):=by
  show _=_
  cases b <;> rfl
 clear h
 go_enter Tryz.func177,Tryz.ntmps177
 go_upto_region 1 with fail
 change Code.wp _ _ _ _ (w.alloc a0f);generalize w.alloc a0f=X at *;generalize a0g s (g4x b name fr til)=D at *;rcases ht with ⟨rfl,rfl,rfl,rfl⟩|⟨h3,t,u,zt,zu,ct,cu,rfl,rfl⟩
 ·have D0:=a0b (H.out.later P0.out.bl);have UN:=a0b (D0.out.a0c name);have LS:=a0b (e4t D0.out hid name 0 1048320);have Q1:=a0b (Q7.of (P0.out.kb (w.heap.size,a0f) (by simp)));generalize Desk.a0h name s.ts=un at *
  go_wp2_with fail
  refine UN.out.mono ?_;rintro e w3 ⟨rfl,rfl⟩
  by_cases a1:un=0
  ·have HF:Hid (d1S w d F xs D (.returned (a0s 3 0 0 c7N c7N c7N c7N)) (a2w w3 w.heap.size (.int .i64 3) (.int .i64 0) (.int .i64 0) c7N c7N c7N c7N)):=by
    show d1S w d F xs _ _ _;rw[HD.out,if_pos a1];exact H.out.said P0.out.bl (zq _) 3 0 _ _ _ _ _ _ _
   have a1':(un==0)=true:=by simpa using a1
   obtain⟨q0,q1,q2,q3,q4,q5,q6,fq⟩:=Q1.out;clear a1
   go_wp2_with fail
   exact d0O Tryz.results177 ⟨q0,q1,q2,q3,q4,q5,q6,fq⟩ HF.out
  ·have a1':(un==0)=false:=by simpa using a1
   have E9:Hid (D=(s,{ Rep.num 0 with entries:=Desk.a2x name 0 1048320 s.es })):=by show _=_;rw[HD.out,if_neg a1];rfl
   clear a1
   go_wp2_with fail
   refine LS.out.mono ?_;rintro e w4 ⟨v,rfl,hT⟩;obtain⟨al,cl,hv⟩:=hT.form
   have HF:Hid (d1S w d F xs D (.returned (a0s 0 0 0 v c7N c7N c7N)) (a2w w4 w.heap.size (.int .i64 0) (.int .i64 0) (.int .i64 0) v c7N c7N c7N)):=by
    show d1S w d F xs _ _ _;rw[E9.out];exact H.out.tells P0.out.bl hT (zq _) hQ _ _ _ _ _ _ _
   obtain⟨q0,q1,q2,q3,q4,q5,q6,fq⟩:=Q1.out.later (hT.bw.block _ hQ);clear hT;subst hv
   go_wp2_with fail
   exact d0O Tryz.results177 ⟨q0,q1,q2,q3,q4,q5,q6,fq⟩ HF.out
 ·have i2:(2:Int)<(n:Int):=by omega
  have i3:(3:Int)<(n:Int):=by omega
  have c2:=a0a P0.out.bl ct;have T1:=a0b (fun wx=>d0T t wx zt);have T2:=a0b (fun wx=>d0T u wx zu);generalize g2T t=fr at *;generalize g2T u=til at *
  go_wp2_with fail
  refine (T1.out _).mono ?_;rintro e w1 ⟨rfl,hb1⟩;replace P0:=a0b (P0.out.later hb1);have c3:=a0a P0.out.bl cu;clear hb1 y0 y1 c2 hQ
  go_wp2_with fail
  refine (T2.out _).mono ?_;rintro e w2 ⟨rfl,hb2⟩;replace P0:=a0b (P0.out.later hb2);have y0:=a0a P0.out.bl h0;have y1:=a0a P0.out.bl h1;have hQ:w.heap.size<w2.heap.size:=P0.out.lt (q:=(w.heap.size,a0f)) (by simp);clear hb2 c3 T1 T2 X;have D0:=a0b (H.out.later P0.out.bl);have UN:=a0b (D0.out.a0c name);have LS:=a0b (e4t D0.out hid name fr til);have PK:=a0b (D0.out.peak name fr til);have Q1:=a0b (Q7.of (P0.out.kb (w.heap.size,a0f) (by simp)));generalize Desk.a0h name s.ts=un at *;generalize Desk.a1Q name s.es fr til=pk at *
  go_wp2_with fail
  refine UN.out.mono ?_;rintro e w3 ⟨rfl,rfl⟩
  by_cases a1:un=0
  ·have HF:Hid (d1S w d F xs D (.returned (a0s 3 0 0 c7N c7N c7N c7N)) (a2w w3 w.heap.size (.int .i64 3) (.int .i64 0) (.int .i64 0) c7N c7N c7N c7N)):=by
    show d1S w d F xs _ _ _;rw[HD.out,if_pos a1];exact H.out.said P0.out.bl (zq _) 3 0 _ _ _ _ _ _ _
   have a1':(un==0)=true:=by simpa using a1
   obtain⟨q0,q1,q2,q3,q4,q5,q6,fq⟩:=Q1.out;clear a1
   go_wp2_with fail
   exact d0O Tryz.results177 ⟨q0,q1,q2,q3,q4,q5,q6,fq⟩ HF.out
  ·have a1':(un==0)=false:=by simpa using a1
   by_cases a2:til<=fr
   ·have HF:Hid (d1S w d F xs D (.returned (a0s 6 0 0 c7N c7N c7N c7N)) (a2w w3 w.heap.size (.int .i64 6) (.int .i64 0) (.int .i64 0) c7N c7N c7N c7N)):=by
     show d1S w d F xs _ _ _;rw[HD.out,if_neg a1,if_pos a2];exact H.out.said P0.out.bl (zq _) 6 0 _ _ _ _ _ _ _
    obtain⟨q0,q1,q2,q3,q4,q5,q6,fq⟩:=Q1.out;clear a1
    go_wp2_with fail
    exact d0O Tryz.results177 ⟨q0,q1,q2,q3,q4,q5,q6,fq⟩ HF.out
   ·cases b
    ·have E9:Hid (D=(s,.num pk)):=by show _=_;rw[HD.out,if_neg a1,if_neg a2];rfl
     clear a1
     go_wp2_with fail
     refine PK.out.mono ?_;rintro e w4 ⟨rfl,hb4⟩;have B4:=a0b (a0j P0.out.bl hb4 (zq _))
     have HF:Hid (d1S w d F xs D (.returned (a0s 0 0 pk c7N c7N c7N c7N)) (a2w w4 w.heap.size (.int .i64 0) (.int .i64 0) (.int .i64 pk) c7N c7N c7N c7N)):=by
      show d1S w d F xs _ _ _;rw[E9.out];exact H.out.said B4.out (zq _) 0 pk _ _ _ _ _ _ _
     obtain⟨q0,q1,q2,q3,q4,q5,q6,fq⟩:=Q1.out.later (hb4.block _ hQ);clear hb4
     go_wp2_with fail
     exact d0O Tryz.results177 ⟨q0,q1,q2,q3,q4,q5,q6,fq⟩ HF.out
    ·have E9:Hid (D=(s,{ Rep.num 0 with entries:=Desk.a2x name fr til s.es })):=by show _=_;rw[HD.out,if_neg a1,if_neg a2];rfl
     clear a1
     go_wp2_with fail
     refine LS.out.mono ?_;rintro e w4 ⟨v,rfl,hT⟩;obtain⟨al,cl,hv⟩:=hT.form
     have HF:Hid (d1S w d F xs D (.returned (a0s 0 0 0 v c7N c7N c7N)) (a2w w4 w.heap.size (.int .i64 0) (.int .i64 0) (.int .i64 0) v c7N c7N c7N)):=by
      show d1S w d F xs _ _ _;rw[E9.out];exact H.out.tells P0.out.bl hT (zq _) hQ _ _ _ _ _ _ _
     obtain⟨q0,q1,q2,q3,q4,q5,q6,fq⟩:=Q1.out.later (hT.bw.block _ hQ);clear hT;subst hv
     go_wp2_with fail
     exact d0O Tryz.results177 ⟨q0,q1,q2,q3,q4,q5,q6,fq⟩ HF.out
open Desk (Ent St Rep a0g Inv)
theorem g7I{xs:List (Ent × Nat × Nat)}(h:DD w d s xs F)(hi:Inv s){t:ByteArray}(hn:1<n)(h0:w.cell? ⟨g,0,none⟩=some (.string ⟨#[116,105,99,107]⟩))(h1:w.cell? ⟨g,1,none⟩=some (.string t))(ht:t.size<=160)(hl:1<=b4g t 1 7/\b4g t 1 7<=1048320):
  Calls Tryz.prog 117 #[.pointer (some ⟨d,0,none⟩),.slice (some ⟨g,0,none⟩) n c] w (d1S w d F xs (a0g s (.tick (b4g t 1 7)))):=by
 have P0:=a0b ((KP.nil w).alloc a0f);have H:=a0b h;have HL:=a0b (And.intro h.lt (fun y hy=>(h.rd.sp y hy).2.2));have i0:(0:Int)<(n:Int):=by omega
 have i1:(1:Int)<(n:Int):=by omega
 have y0:=a0a P0.out.bl h0;have y1:=a0a P0.out.bl h1;clear h h0 h1
 go_enter Tryz.func117,Tryz.ntmps117
 go_upto_region 1 with fail
 change Code.wp _ _ _ _ (w.alloc a0f);generalize w.alloc a0f=X at *
 go_wp2_with fail
 refine (b0E t 1 7 X ht (by omega) (by omega)).mono ?_;rintro e w1 ⟨rfl,hb1⟩;replace P0:=a0b (P0.out.later hb1);have TK:=a0b (g8A (H.out.later P0.out.bl) hi hl);have hQ:w.heap.size<w1.heap.size:=P0.out.lt (q:=(w.heap.size,a0f)) (by simp);clear hb1 y0 y1 hl;generalize b4g t 1 7=m at *
 go_wp2_with fail
 refine TK.out.mono ?_;intro e w2 hA;obtain⟨a1,a2,a3,a4,n1,n2,n3,n4,c1,c2,c3,c4,rfl,h7,hA⟩:=hA.up P0.out.bl (zq _) hQ HL.out.1 HL.out.2 (Q7.of (P0.out.kb (w.heap.size,a0f) (by simp)));have HA:=a0b hA;obtain⟨q0,q1,q2,q3,q4,q5,q6,fq⟩:=h7;clear hA TK;simp only[a0s]
 go_wp2_with fail
 exact d0O Tryz.results117 ⟨q0,q1,q2,q3,q4,q5,q6,fq⟩ HA.out
theorem f6Z{xs:List (Ent × Nat × Nat)}(h:DD w d s xs F)(hn:0<n)(h0:w.cell? ⟨g,0,none⟩=some (.string ⟨#[119,97,105,116,105,110,103]⟩)):
  Calls Tryz.prog 117 #[.pointer (some ⟨d,0,none⟩),.slice (some ⟨g,0,none⟩) n c] w (d1S w d F xs (a0g s .waiting)):=by
 have P0:=a0b ((KP.nil w).alloc a0f);have H:=a0b h;have i0:(0:Int)<(n:Int):=by omega
 have y0:=a0a P0.out.bl h0;have hQ:w.heap.size<(w.alloc a0f).heap.size:=by simp
 have WT:=a0b (g7T (H.out.later P0.out.bl));clear h h0
 go_enter Tryz.func117,Tryz.ntmps117
 go_upto_region 1 with fail
 change Code.wp _ _ _ _ (w.alloc a0f);generalize w.alloc a0f=X at *
 go_wp2_with fail
 refine WT.out.mono ?_;rintro e w4 ⟨v,rfl,hT⟩;obtain⟨al,cl,hv⟩:=hT.form;have HF:Hid (d1S w d F xs (a0g s .waiting) (.returned (a0s 0 0 0 v c7N c7N c7N)) (a2w w4 w.heap.size (.int .i64 0) (.int .i64 0) (.int .i64 0) v c7N c7N c7N)):=H.out.tells P0.out.bl hT (zq _) hQ _ _ _ _ _ _ _;obtain⟨q0,q1,q2,q3,q4,q5,q6,fq⟩:=(Q7.of (P0.out.kb (w.heap.size,a0f) (by simp))).later (hT.bw.block _ hQ);clear hT;subst hv
 go_wp2_with fail
 exact d0O Tryz.results117 ⟨q0,q1,q2,q3,q4,q5,q6,fq⟩ HF.out
theorem e0h:∀ (es:List Ent)(id i:Int),0<=i->(Desk.d0u id es i=-1/\Desk.a5S id es=none)\/∃ k:Nat,∃ h:k<es.length,Desk.d0u id es i=i+k/\Desk.a5S id es=some es[k]/\es[k].id=id
 |[],id,i,_=>.inl ⟨rfl,rfl⟩
 |e :: r,id,i,h0=>by
  unfold Desk.d0u Desk.a5S
  by_cases h:e.id=id
  ·refine .inr ⟨0,by simp,?_⟩;simp[h]
  ·rcases e0h r id (i+1) (by omega) with ⟨h1,h2⟩|⟨k,hk,h1,h2,h3⟩
   ·refine .inl ?_;rw[if_neg h];simp only[List.find?_cons,h,decide_false];exact⟨h1,h2⟩
   ·refine .inr ⟨k+1,by simpa using hk,?_⟩;rw[if_neg h];simp only[List.find?_cons,h,decide_false];exact⟨by rw[h1];push_cast;omega,h2,h3⟩
theorem f2B(h:Desk.Ids es)(hk:k<es.length):es.set k (Desk.a0Q es[k])=Desk.a0C es[k].id es:=by
 unfold Desk.a0C;apply List.ext_getElem (by simp);intro i h1 h2;rw[List.getElem_set,List.getElem_map];simp only[List.length_set] at h1
 split
 ·rename_i e;subst e;simp
 ·rename_i e
  rw[if_neg];intro e2;have:=(List.pairwise_iff_getElem.1 h);rcases Nat.lt_or_gt_of_ne e with e3|e3
  ·have:=this k i (by simpa using hk) (by simpa using h1) e3;simp only[List.getElem_map] at this;omega
  ·have:=this i k (by simpa using h1) (by simpa using hk) e3;simp only[List.getElem_map] at this;omega
theorem g1O{xs:List (Ent × Nat × Nat)}:(d2z id xs).map (·.1)=Desk.kept id (xs.map (·.1)):=by
 unfold d2z Desk.kept;rw[List.filter_map]
 congr 1
def f4s(b:Bool)(id:Int):Desk.a7U:=if b then .cancel id else .confirm id
theorem f8E{xs:List (Ent × Nat × Nat)}(h:DD w d s xs F)(hid:Desk.Ids s.es)(b:Bool){t:ByteArray}(hk:(kw.toList==[99,97,110,99,101,108])=b)(ht:t.size<=160)(hn:1<n)(c0:w.cell? ⟨g,0,none⟩=some (.string kw))(c1:w.cell? ⟨g,1,none⟩=some (.string t)):
  Calls Tryz.prog 175 #[.pointer (some ⟨d,0,none⟩),.slice (some ⟨g,0,none⟩) n c] w (d1S w d F xs (a0g s (f4s b (b4g t 1 7)))):=by
 have hX:Below w.heap.size w (w.alloc a0f):=(zr _ _).alloc (zq _) _;have hQ:=a0p w a0f;have H:=a0b h;have HX:=a0b (And.intro hX hQ);have x0:=a0a hX c0;have x1:=a0a hX c1;have hn':(1:Int)<(n:Int):=by omega
 have hn0:(0:Int)<(n:Int):=by omega
 clear hX hQ c0 c1 h
 go_enter Tryz.func175,Tryz.ntmps175
 go_upto_region 1 with fail
 change Code.wp _ _ _ _ (w.alloc a0f);generalize w.alloc a0f=X at *
 go_wp2_with fail
 refine (b0E t 1 7 X ht (by omega) (by omega)).mono ?_;rintro e w1 ⟨rfl,hb1⟩;have B1:=a0b (a0j HX.out.1 hb1 (zq _));have D1:=a0b (H.out.later B1.out);have PL:=a0b (D1.out.place (b4g t 1 7));have PF:=a0b (e0h s.es (b4g t 1 7) 0 (Int.le_refl _));have x0:=a0a hb1 x0;have Q1:=a0b ((Q7.of HX.out.2).later (hb1.block _ (Array.getElem?_eq_some_iff.1 HX.out.2).1));clear hb1 HX x1;generalize b4g t 1 7=id at *
 go_wp2_with fail
 refine PL.out.mono ?_;rintro e w2 ⟨rfl,rfl⟩;clear PL;obtain⟨q0,q1,q2,q3,q4,q5,q6,fq⟩:=Q1.out;rcases PF.out with ⟨e1,e2⟩|⟨k,hkl,e1,e2,e3⟩
 ·have hp:Desk.d0u id s.es 0<0:=by omega
  have HF:Hid (d1S w d F xs (a0g s (f4s b id)) (.returned (a0s 9 0 0 c7N c7N c7N c7N)) (a2w w2 w.heap.size (.int .i64 9) (.int .i64 0) (.int .i64 0) c7N c7N c7N c7N)):=by
   have:=H.out.said B1.out (zq _) 9 0 (.int .i64 9) (.int .i64 0) (.int .i64 0) c7N c7N c7N c7N;show d1S w d F xs _ _ _
   cases b <;> (simp only[f4s,a0g,e2,Bool.false_eq_true,if_true,if_false];exact this)
  clear e1 e2 PF;generalize Desk.d0u id s.es 0=pl at *
  go_wp2_with fail
  exact d0O Tryz.results175 ⟨q0,q1,q2,q3,q4,q5,q6,fq⟩ HF.out
 ·rw[Int.zero_add] at e1;rw[e1];have hp:¬ ((k:Int)<0):=by omega
  have hkx:k<xs.length:=by have:=H.out.len;omega
  have hil:(k:Int)<(s.es.length:Int):=by omega
  have hpk:(0:Int)<=(k:Int):=by omega
  clear e1 PF;obtain⟨a,cap,E,hr⟩:=D1.out.er;obtain rfl:=hr.a k hkx;have cc:=hr.c;rw[H.out.len] at cc;have r1:=(hr.r k hkx).c1;have r5:=(hr.r k hkx).c5
  have hx:xs[k].1=s.es[k]:=by
   have e:(xs.map (·.1))[k]?=some s.es[k]:=by rw[H.out.es];simp[hkl]
   rw[List.getElem?_eq_getElem (by simpa using hkx),Option.some.injEq,List.getElem_map] at e;exact e
  have fE:=fun o=>hr.f o (by omega)
  have HR:=a0b hr;have HKX:=a0b (And.intro e2 (And.intro e3 hx));clear e2 e3 hr
  cases b
  ·rw[hx] at r1 r5
   by_cases hk2:s.es[k].kind=2
   ·have hq:(s.es[k].kind != 2)=false:=by simp[hk2]
    have bk:=D1.out.a0C HR.out hkx (es':=Desk.a0C id s.es) (by rw[hx,f2B hid hkl,HKX.out.2.1]);have hEF:=bk.2.1;have hEd:=bk.2.2;have kE:Off F w2 ((w2.setCell ⟨E,k*6+1,none⟩ (.int .i64 1)).setCell ⟨E,k*6+5,none⟩ (.int .i64 0)):=((Off.refl F w2).setCell (.inl hEF) _ _).setCell (.inl hEF) _ _;have hEQ:E≠w.heap.size:=by have:=H.out.lt E hEF;omega
    have hw:Off F w ((w2.setCell ⟨E,k*6+1,none⟩ (.int .i64 1)).setCell ⟨E,k*6+5,none⟩ (.int .i64 0)):=(Off.of_below B1.out).trans kE
    have HD:Hid (a0g s (f4s false id)=({ s with es:=Desk.a0C id s.es },⟨0,0,0,[],[],[],[]⟩)):=by
     show _=_;simp[f4s,a0g,HKX.out.1,hk2,Rep.num]
    have hQF:w.heap.size ∉ F:=fun e=>by have:=H.out.lt _ e;omega
    have Q2:=a0b (Q1.out.later (kE.block _ (World.block_lt_of_cell? _ _ q0) hQF));have HB:=a0b (And.intro bk.1 hw);clear bk kE hw hk2 q0 q1 q2 q3 q4 q5 q6 fq
    go_upto_region 12 with fail
    generalize (World.setCell (World.setCell w2 _ _) _ _)=Z at *
    have HF:Hid (d1S w d F xs (a0g s (f4s false id)) (.returned (a0s 0 0 0 c7N c7N c7N c7N)) (a2w Z w.heap.size (.int .i64 0) (.int .i64 0) (.int .i64 0) c7N c7N c7N c7N)):=by
     show d1S w d F xs _ _ _;rw[HD.out];refine HB.out.1.put7 (fun _ hx=>.inl hx) HB.out.2 (zq _) hQF (fun x hx e=>?_) (fun x hx=>.inl ?_) 0 0 _ _ _ _ _ _ _
     rotate_left
     ·rcases List.mem_or_eq_of_mem_set hx with hx|rfl
      ·exact⟨x,hx,rfl⟩
      ·exact⟨xs[k],List.getElem_mem hkx,rfl⟩
     have:x.2.1<w.heap.size:=by
      rcases List.mem_or_eq_of_mem_set hx with hx|rfl
      ·exact (H.out.rd.sp x hx).2.2
      ·exact (H.out.rd.sp xs[k] (zg hkx)).2.2
     omega
    obtain⟨q0,q1,q2,q3,q4,q5,q6,fq⟩:=Q2.out;clear HB Q2
    go_wp2_with fail
    exact d0O Tryz.results175 ⟨q0,q1,q2,q3,q4,q5,q6,fq⟩ HF.out
   ·have hq:(s.es[k].kind != 2)=true:=by simp[hk2]
    have HF:Hid (d1S w d F xs (a0g s (f4s false id)) (.returned (a0s 10 0 0 c7N c7N c7N c7N)) (a2w w2 w.heap.size (.int .i64 10) (.int .i64 0) (.int .i64 0) c7N c7N c7N c7N)):=by
     have:=H.out.said B1.out (zq _) 10 0 (.int .i64 10) (.int .i64 0) (.int .i64 0) c7N c7N c7N c7N;show d1S w d F xs _ _ _;simp only[f4s,a0g,HKX.out.1,Bool.false_eq_true,if_false,hk2,ne_eq,not_false_eq_true,if_true];exact this
    clear hk2
    go_wp2_with fail
    exact d0O Tryz.results175 ⟨q0,q1,q2,q3,q4,q5,q6,fq⟩ HF.out
  ·have WO:=a0b (D1.out.without id)
   have HD:Hid (a0g s (f4s true id)=({ s with es:=Desk.kept id s.es },⟨0,0,0,[],[],[],[]⟩)):=by
    show _=_;simp[f4s,a0g,HKX.out.1,Rep.num]
   clear r1 r5 cc fE
   go_wp2_with fail
   refine WO.out.mono ?_;rintro e w3 ⟨vr,rfl,ho,hb3⟩;obtain⟨av,cv,hvr⟩:=c9y ho;have FR:=a0b (D1.out.fresh ho (zq _) hb3 (fun y hy=>(List.mem_filter.1 hy).1) (List.length_filter_le ..) (g1O.trans (by rw[H.out.es])));have D3:=D1.out.later hb3;obtain⟨v2,y1,_⟩:=D3.rd.ev;have fy:=D3.rd.fz 1;have hdQ:d≠w.heap.size:=by have:=H.out.lt d H.out.rd.dF;omega
   have kd:Off [d] w3 (w3.setCell ⟨d,1,none⟩ vr):=Off.set0 ..;have Q3:=a0b ((Q1.out.later (hb3.block _ (World.block_lt_of_cell? _ _ q0))).later (kd.block _ (zL (World.block_lt_of_cell? _ _ q0) hb3.size) (by simp;exact fun e=>hdQ e.symm)));have HO:=a0b (And.intro (((Off.of_below (F:=F) B1.out).trans (Off.of_below hb3)).setCell (.inl H.out.rd.dF) 1 vr) ho);have hz:=B1.out.size;have hq0:=World.block_lt_of_cell? _ _ q0;have hq0:w.heap.size<w2.heap.size:=hq0;clear ho hb3 D3 kd;rw[hvr] at FR Q3 HO ⊢;clear hvr q0 q1 q2 q3 q4 q5 q6 fq
   go_upto_region 12 with fail
   generalize (World.setCell w3 ⟨d,1,none⟩ _)=Z at *
   have HF:Hid (d1S w d F xs (a0g s (f4s true id)) (.returned (a0s 0 0 0 c7N c7N c7N c7N)) (a2w Z w.heap.size (.int .i64 0) (.int .i64 0) (.int .i64 0) c7N c7N c7N c7N)):=by
    show d1S w d F xs _ _ _;rw[HD.out];have hv:∀ b,(Value.slice av (d2z id xs).length cv).ownBlock=some b->w2.heap.size<=b:=fun b hb=>d0G HO.out.2 hb
    refine FR.out.put7 (fun x hx=>?_) HO.out.1 (zq _) (fun hx=>?_) (fun x hx e=>?_) (fun x hx=>.inl ⟨x,(List.mem_filter.1 hx).1,rfl⟩) 0 0 _ _ _ _ _ _ _
    ·rcases List.mem_append.1 hx with e|e
     ·have:=hv x (by simpa using e);exact .inr (by omega)
     ·exact .inl e
    ·rcases List.mem_append.1 hx with e|e
     ·have:=hv _ (by simpa using e);omega
     ·have:=H.out.lt _ e;omega
    ·have:=(H.out.rd.sp x ((List.mem_filter.1 hx).1)).2.2;omega
   obtain⟨q0,q1,q2,q3,q4,q5,q6,fq⟩:=Q3.out;clear FR Q3 HO
   go_wp2_with fail
   exact d0O Tryz.results175 ⟨q0,q1,q2,q3,q4,q5,q6,fq⟩ HF.out
end Go.Proofs.YtfigmlfdnickmaaGreatDoor
