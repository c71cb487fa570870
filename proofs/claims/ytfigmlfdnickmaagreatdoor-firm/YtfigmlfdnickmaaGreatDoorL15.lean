/-
  Parts of the proof, one behind the other.
-/
import Derived.Test.YtfigmlfdnickmaaGreatDoorL14
import Derived.Deep.CutRange
import Derived.Deep.RegionWith
import Derived.Deep.RegionHeld3
import Derived.Maps.AppendAt
import Derived.Deep.AppendLies
import Derived.Lib.SmallJoins
import Derived.Lib.SliceRun
set_option maxRecDepth 100000
set_option maxHeartbeats 8000000
namespace Go.Proofs.YtfigmlfdnickmaaGreatDoor
open Go.RowKit Go.Shelf
attribute [local go_sem] Oper.semAt_some
theorem b9D{w:World}{b:Nat}{r:Rd.a0Y}(h:w.heap[b]?=some (a0u r)):∀ i:Nat,i<7->w.cell? ⟨b,2+i,none⟩=some (.bool (isd r.acc i))
 |0,_=>a7t h
 |1,_=>a7s h
 |2,_=>a7r h
 |3,_=>a7q h
 |4,_=>a7p h
 |5,_=>a7o h
 |6,_=>a7n h
 |i+7,hi=>by omega
theorem b7E(F:Fence)(n:Nat)(h6:F.fn 292)(hro:F.round=none)(hn:1<=n)(l Bn n₀:Nat)(r:Rd.a0Y)(hf:Rd.a6s r)(J Jx:List Int->World->Prop)
  (hY:∀ pre x W,J pre W->pre.length<(Rd.a9Y r.acc r.fr r.ev 800 (r.fr-r.fr % 7)).length->YieldAt F (n-1) Tryz.prog l #[.int .i64 x] W fun e W' =>
   (e=.returned (.bool true)/\J (pre++[x]) W'/\RK n₀ Bn W W')\/(e=.returned (.bool false)/\Jx (pre++[x]) W'))
  (W:World) (hr:W.heap[Bn]?=some (a0u r)) (h0:J [] W):
  CallsIn F n Tryz.prog 292 #[.func (.yield l) #[] #[],.pointer (some ⟨Bn,0,none⟩)] W fun e W'=>(∃ v,e=.returned v) /\
   ((∃ ys,ys=Rd.a9Y r.acc r.fr r.ev 800 (r.fr-r.fr % 7)/\J ys W')\/(∃ pre,pre <+: Rd.a9Y r.acc r.fr r.ev 800 (r.fr-r.fr % 7)/\Jx pre W')):=by
 have c9:=a4m hr
 have e1:=hf.e1
 have e2:=hf.e2
 have f0:=hf.f0
 have f1:=hf.f1
 clear hf
 have m1:r.fr.tmod 7=r.fr % 7:=Int.tmod_eq_emod_of_nonneg f0
 have m2:IntKind.i64.wrap (r.fr % 7)=r.fr % 7:=a0i (by omega) (by omega)
 have m3:IntKind.i64.wrap (r.fr-r.fr % 7)=r.fr-r.fr % 7:=a0i (by omega) (by omega)
 have m4:IntKind.i64.wrap (r.ev*7)=r.ev*7:=a0i (by omega) (by omega)
 generalize hS:Rd.a9Y r.acc r.fr r.ev 800 (r.fr-r.fr % 7)=S at *
 refine callsIn_of_wp Tryz.func292 rfl h6 ?_ hro
 simp only[Tryz.ntmps292,List.size_toArray,List.length_cons,List.length_nil,Nat.reduceAdd,Nat.reduceSub,Array.replicate_succ,Array.replicate_zero,List.push_toArray,List.append_toArray,List.nil_append,List.cons_append]
 gi_wp2
 gi_loopw [3] (fun v wr=>∃ (d:Int) (f:Nat) (pre:List Int),v=.int .i64 d/\S=pre++Rd.a9Y r.acc r.fr r.ev f d/\0<=d/\d<=10000/\r.fr<d+7/\728<=d+f/\J pre wr/\wr.heap[Bn]?=some (a0u r)) (fun v _=>(20000-intOf v).toNat)
 case atStart=>exact⟨r.fr-r.fr % 7,800,[],rfl,hS.symm,by omega,by omega,by omega,by omega,h0,hr⟩
 case round =>
  obtain⟨mon,f,pre,rfl,hx,hd0,hd1,hfr,hdf,hJ,hR⟩:=hrel
  clear c9 hr h0
  by_cases hlt:mon<728
  ·obtain⟨f',rfl⟩:∃ f',f=f'+1:=⟨f-1,by omega⟩
   have q1:Rd.a9Y r.acc r.fr r.ev (f'+1) mon=Rd.c1K r.acc r.fr mon++Rd.a9Y r.acc r.fr r.ev f' (mon+r.ev*7):=by simp[Rd.a9Y,hlt]
   rw[q1] at hx
   have k1:IntKind.i64.wrap (mon+r.ev*7)=mon+r.ev*7:=a0i (by omega) (by omega)
   have k2:IntKind.i64.wrap (mon+7)=mon+7:=a0i (by omega) (by omega)
   have c9:=a4m hR
   by_cases hm:r.fr<=mon
   ·have hwk:Rd.c1K r.acc r.fr mon=Rd.a1p (fun d=>isd r.acc (d-mon)) (7-0) (mon+((0:Nat):Int)):=by unfold Rd.c1K;rw[show max mon r.fr=mon from by omega,show (mon+7-mon).toNat=7 from by omega];simp
    gi_wp2
    gi_loopw [4] (fun v wr=>∃ (i:Nat) (pre':List Int),v=.int .i64 (mon+i)/\i<=7/\pre'++Rd.a1p (fun d=>isd r.acc (d-mon)) (7-i) (mon+i)=pre++Rd.c1K r.acc r.fr mon/\J pre' wr/\wr.heap[Bn]?=some (a0u r)) (fun v _=>(mon+7-intOf v).toNat)
    case atStart=>exact⟨0,pre,(by first|(simp;done)|(simp;omega)),by omega,by rw[hwk],hJ,hR⟩
    case round =>
     obtain⟨i,pre',rfl,hi,hu,hJ',hR'⟩:=hrel
     clear hJ hR c9
     by_cases hi7:i<7
     ·have hlt2:mon+(i:Int)<mon+7:=by omega
      have on:=b9D hR' i hi7
      have k3:IntKind.i64.wrap (mon+(i:Int)-mon)=i:=by rw[show mon+(i:Int)-mon=i from by omega];exact a0i (by omega) (by omega)
      have k4:IntKind.i64.wrap (mon+(i:Int)+1)=mon+i+1:=a0i (by omega) (by omega)
      have hp:mon+(i:Int)-mon=i:=by omega
      have q5:Rd.a1p (fun d=>isd r.acc (d-mon)) (7-i) (mon+i)=(if isd r.acc i then [mon+(i:Int)] else [])++Rd.a1p (fun d=>isd r.acc (d-mon)) (7-(i+1)) (mon+((i+1:Nat):Int)):=by
       rw[show 7-i=(7-(i+1))+1 from by omega,Rd.a1p,hp,show mon+((i+1:Nat):Int)=mon+i+1 from by omega]
       split <;> simp
      rw[q5] at hu
      cases hb:isd r.acc i
      ·rw[hb] at on hu
       gi_wp2
       refine⟨fun _ h=>(by cases h),?_⟩
       gi_wp2
       go_roundw
       case rel=>exact⟨i+1,pre',by simp;omega,by omega,by simpa using hu,hJ',hR'⟩
       case measure=>simp[intOf];omega
      ·rw[hb] at on hu
       obtain⟨fn,tmps,assign,body,hy,hRd⟩:=hY pre' (mon+i) wr hJ' (by rw[hx,<- List.append_assoc,<- hu];simp)
       gi_wp2
       refine hRd.mono ?_
       rintro e W3 (⟨rfl,hJ3,hk3⟩|⟨rfl,hJx3⟩)
       ·gi_wp2
        go_roundw
        case rel=>exact⟨i+1,pre'++[mon+(i:Int)],by simp;omega,by omega,by simpa using hu,hJ3,hk3.2.trans hR'⟩
        case measure=>simp[intOf];omega
       ·gi_wp2
        refine bodyPost_ret (results_none rfl _ _ _) rfl ?_
        exact⟨⟨_,rfl⟩,.inr ⟨pre'++[mon+(i:Int)],⟨Rd.a1p (fun d=>isd r.acc (d-mon)) (7-(i+1)) (mon+((i+1:Nat):Int))++Rd.a9Y r.acc r.fr r.ev f' (mon+r.ev*7),by rw[hx,<- List.append_assoc,<- List.append_assoc,<- hu];simp⟩,hJx3⟩⟩
     ·have hlt2:¬ mon+(i:Int)<mon+7:=by omega
      have c1:=a3R hR'
      have e7:i=7:=by omega
      subst e7
      simp only[Nat.sub_self,Rd.a1p,List.append_nil] at hu
      gi_wp2
      go_roundw
      case rel=>exact⟨mon+r.ev*7,f',pre',by simp,by rw[hx,hu,List.append_assoc],by omega,by omega,by omega,by omega,hJ',hR'⟩
      case measure=>simp[intOf];omega
   ·have hi0:r.fr=mon+((r.fr-mon).toNat:Int):=by omega
    have hwk:Rd.c1K r.acc r.fr mon=Rd.a1p (fun d=>isd r.acc (d-mon)) (7-(r.fr-mon).toNat) (mon+((r.fr-mon).toNat:Int)):=by unfold Rd.c1K;rw[<- hi0,show max mon r.fr=r.fr from by omega,show (mon+7-r.fr).toNat=7-(r.fr-mon).toNat from by omega]
    have HW:=a0b (And.intro hi0 hwk)
    clear hi0 hwk
    gi_wp2
    gi_loopw [4] (fun v wr=>∃ (i:Nat) (pre':List Int),v=.int .i64 (mon+i)/\i<=7/\pre'++Rd.a1p (fun d=>isd r.acc (d-mon)) (7-i) (mon+i)=pre++Rd.c1K r.acc r.fr mon/\J pre' wr/\wr.heap[Bn]?=some (a0u r)) (fun v _=>(mon+7-intOf v).toNat)
    case atStart=>exact⟨(r.fr-mon).toNat,pre,(by first|(rw[<- HW.out.1];done)|(rw[<- HW.out.1];congr 1;omega)),by omega,by rw[HW.out.2],hJ,hR⟩
    case round =>
     obtain⟨i,pre',rfl,hi,hu,hJ',hR'⟩:=hrel
     clear hJ hR c9
     by_cases hi7:i<7
     ·have hlt2:mon+(i:Int)<mon+7:=by omega
      have on:=b9D hR' i hi7
      have k3:IntKind.i64.wrap (mon+(i:Int)-mon)=i:=by rw[show mon+(i:Int)-mon=i from by omega];exact a0i (by omega) (by omega)
      have k4:IntKind.i64.wrap (mon+(i:Int)+1)=mon+i+1:=a0i (by omega) (by omega)
      have hp:mon+(i:Int)-mon=i:=by omega
      have q5:Rd.a1p (fun d=>isd r.acc (d-mon)) (7-i) (mon+i)=(if isd r.acc i then [mon+(i:Int)] else [])++Rd.a1p (fun d=>isd r.acc (d-mon)) (7-(i+1)) (mon+((i+1:Nat):Int)):=by
       rw[show 7-i=(7-(i+1))+1 from by omega,Rd.a1p,hp,show mon+((i+1:Nat):Int)=mon+i+1 from by omega]
       split <;> simp
      rw[q5] at hu
      cases hb:isd r.acc i
      ·rw[hb] at on hu
       gi_wp2
       refine⟨fun _ h=>(by cases h),?_⟩
       gi_wp2
       go_roundw
       case rel=>exact⟨i+1,pre',by simp;omega,by omega,by simpa using hu,hJ',hR'⟩
       case measure=>simp[intOf];omega
      ·rw[hb] at on hu
       obtain⟨fn,tmps,assign,body,hy,hRd⟩:=hY pre' (mon+i) wr hJ' (by rw[hx,<- List.append_assoc,<- hu];simp)
       gi_wp2
       refine hRd.mono ?_
       rintro e W3 (⟨rfl,hJ3,hk3⟩|⟨rfl,hJx3⟩)
       ·gi_wp2
        go_roundw
        case rel=>exact⟨i+1,pre'++[mon+(i:Int)],by simp;omega,by omega,by simpa using hu,hJ3,hk3.2.trans hR'⟩
        case measure=>simp[intOf];omega
       ·gi_wp2
        refine bodyPost_ret (results_none rfl _ _ _) rfl ?_
        exact⟨⟨_,rfl⟩,.inr ⟨pre'++[mon+(i:Int)],⟨Rd.a1p (fun d=>isd r.acc (d-mon)) (7-(i+1)) (mon+((i+1:Nat):Int))++Rd.a9Y r.acc r.fr r.ev f' (mon+r.ev*7),by rw[hx,<- List.append_assoc,<- List.append_assoc,<- hu];simp⟩,hJx3⟩⟩
     ·have hlt2:¬ mon+(i:Int)<mon+7:=by omega
      have c1:=a3R hR'
      have e7:i=7:=by omega
      subst e7
      simp only[Nat.sub_self,Rd.a1p,List.append_nil] at hu
      gi_wp2
      go_roundw
      case rel=>exact⟨mon+r.ev*7,f',pre',by simp,by rw[hx,hu,List.append_assoc],by omega,by omega,by omega,by omega,hJ',hR'⟩
      case measure=>simp[intOf];omega
  ·have q1:Rd.a9Y r.acc r.fr r.ev f mon=[]:=by cases f <;> simp[Rd.a9Y,hlt]
   rw[q1,List.append_nil] at hx
   subst hx
   gi_wp2
   go_end0
   exact⟨⟨_,rfl⟩,.inl hJ⟩
attribute [local go_sem] Oper.semAt_some
theorem a3c{n₀:Nat}{w w':World}(h:Tab w)(k:Below n₀ w w')(hn:10<=n₀):Tab w':=by
 obtain⟨a0,a1,a2,a3,a4,a5,a6,a7,a8,a9,a10,a11⟩:=h
 refine⟨?_,?_,?_,?_,?_,?_,?_,?_,?_,?_,?_,?_⟩
 all_goals (refine (k.cell (by show 1<n₀;omega)).trans ?_;assumption)
theorem b4V(n:Nat)(hn:1<=n)(l Bn n₀:Nat)(h10:10<=n₀)(r:Rd.a0Y)(hf:Rd.a6s r)(J Jx:List Int->World->Prop)
  (hY:∀ pre x W,J pre W->pre.length<(Rd.b0e (Cal.dT r.fr) r.ev 100 (Cal.yT r.fr) (Cal.mT r.fr)).length->YieldAt Fence.wide (n-1) Tryz.prog l #[.int .i64 x] W fun e W' =>
   (e=.returned (.bool true)/\J (pre++[x]) W'/\RK n₀ Bn W W')\/(e=.returned (.bool false)/\Jx (pre++[x]) W'))
  (W:World) (ht:Tab W) (hr:W.heap[Bn]?=some (a0u r)) (h0:J [] W):
  CallsIn Fence.wide n Tryz.prog 293 #[.func (.yield l) #[] #[],.pointer (some ⟨Bn,0,none⟩)] W fun e W'=>(∃ v,e=.returned v) /\
   ((∃ ys,ys=Rd.b0e (Cal.dT r.fr) r.ev 100 (Cal.yT r.fr) (Cal.mT r.fr)/\J ys W')\/(∃ pre,pre <+: Rd.b0e (Cal.dT r.fr) r.ev 100 (Cal.yT r.fr) (Cal.mT r.fr)/\Jx pre W')):=by
 have c9:=a4m hr
 have e1:=hf.e1
 have e2:=hf.e2
 have f0:=hf.f0
 have f1:=hf.f1
 clear hf
 obtain⟨mo,mn,my,mm⟩:=Rd.a6c f0 f1
 obtain⟨g1,g2,g3,g4,g5,g6⟩:=(Cal.a2K _ _ _).1 mo
 have HD:Hid (∀ y m d:Int,Cal.ok y m d=true->Cal.num y m d=r.fr->y=Cal.yT r.fr/\m=Cal.mT r.fr/\d=Cal.dT r.fr):=fun y m d h k=>Cal.c4g y m d r.fr h k
 have DA:=a0b (b5w r.fr W ht (by omega) (by omega))
 clear mo mn g5 g6
 generalize hS:Rd.b0e (Cal.dT r.fr) r.ev 100 (Cal.yT r.fr) (Cal.mT r.fr)=S at *
 generalize Cal.dT r.fr=dt at *
 generalize Cal.yT r.fr=y0 at *
 generalize Cal.mT r.fr=m0 at *
 refine callsIn_of_wp Tryz.func293 rfl trivial ?_ rfl
 simp only[Tryz.ntmps293,List.size_toArray,List.length_cons,List.length_nil,Nat.reduceAdd,Nat.reduceSub,Array.replicate_succ,Array.replicate_zero,List.push_toArray,List.append_toArray,List.nil_append,List.cons_append]
 gi_wp2_with (first
  |((try refine⟨trivial,?_⟩);gi_at_call 116;refine (callsIn_wide.2 DA.out).mono ?_;rintro e w1 ⟨y,m,d,rfl,hok,hnum,rfl⟩;obtain⟨rfl,rfl,rfl⟩:=HD.out y m d hok hnum))
 clear DA HD c9 hok hnum
 gi_loopw [3,4] (fun v u wr=>∃ (y m:Int) (f:Nat) (pre:List Int),v=.int .i64 y/\u=.int .i64 m/\S=pre++Rd.b0e d r.ev f y m/\2024<=y/\y<=2034/\1<=m/\m<=12/\24312<12*y+m+f/\J pre wr/\wr.heap[Bn]?=some (a0u r)/\Tab wr) (fun v u _=>(30000-(12*intOf v+intOf u)).toNat)
 case atStart=>exact⟨y,m,100,[],rfl,rfl,hS.symm,by omega,by omega,by omega,by omega,by omega,h0,hr,ht⟩
 case round =>
  obtain⟨y',m',f,pre,rfl,rfl,hx,a1,a2,a3,a4,a5,hJ,hR,hT⟩:=hrel
  clear hr h0 ht
  have IR:=a0b (b1Q y' m' wr hT)
  have hri:=Rd.a8Z (y:=y') (m:=m') a1 (by omega) a3 a4
  by_cases hc:Rd.reached y' m'=true
  ·have hle:=hri.1 hc
   obtain⟨f',rfl⟩:∃ f',f=f'+1:=⟨f-1,by omega⟩
   have q1:Rd.b0e d r.ev (f'+1) y' m'=Rd.a4s y' m' d++Rd.b0e d r.ev f' (Rd.a4E y' m' r.ev) (Rd.a3J m' r.ev):=by simp[Rd.b0e,hc]
   obtain⟨l1,l2,l3⟩:=Rd.b1N (y:=y') (m:=m') (ev:=r.ev)
   rw[q1] at hx
   rw[hc] at IR
   cases hok:Cal.ok y' m' d
   ·have DY:=a0b (a9O y' m' d wr hT hok)
    have LA:=a0b (b3g y' m' r.ev wr (by omega) (by omega) a3 a4 e1 e2)
    have q2:Rd.a4s y' m' d=[]:=by simp[Rd.a4s,hok]
    have c1:=a3R hR
    rw[q2,List.nil_append] at hx
    clear hri hc q1 q2
    generalize Rd.a4E y' m' r.ev=y2 at *
    generalize Rd.a3J m' r.ev=m2 at *
    gi_wp2_with (first
     |((try refine⟨trivial,?_⟩);gi_at_call 294;refine (callsIn_wide.2 IR.out).mono ?_;rintro e w1 ⟨rfl,rfl⟩)
     |((try refine⟨trivial,?_⟩);gi_at_call 112;refine (callsIn_wide.2 DY.out).mono ?_;rintro e w1 ⟨rfl,rfl⟩))
    refine⟨fun _ h=>(by cases h),?_⟩
    gi_wp2_with (first
     |((try refine⟨trivial,?_⟩);gi_at_call 295;refine (callsIn_wide.2 LA.out).mono ?_;rintro e w1 ⟨rfl,rfl⟩))
    go_roundw
    case rel=>exact⟨y2,m2,f',pre,rfl,rfl,hx,by omega,by omega,l2,l3,by omega,hJ,hR,hT⟩
    case measure=>simp[intOf];omega
   ·have DY:=a0b (a7P y' m' d wr hT hok)
    have q2:Rd.a4s y' m' d=[Cal.num y' m' d]:=by simp[Rd.a4s,hok]
    rw[q2] at hx
    clear hri hc q1 q2
    generalize Cal.num y' m' d=z at *
    have LA:=a0b (fun w=>b3g y' m' r.ev w (by omega) (by omega) a3 a4 e1 e2)
    generalize Rd.a4E y' m' r.ev=y2 at *
    generalize Rd.a3J m' r.ev=m2 at *
    obtain⟨fn,tmps,assign,body,hy,hRd⟩:=hY pre z wr hJ (by rw[hx];simp)
    gi_wp2_with (first
     |((try refine⟨trivial,?_⟩);gi_at_call 294;refine (callsIn_wide.2 IR.out).mono ?_;rintro e w1 ⟨rfl,rfl⟩)
     |((try refine⟨trivial,?_⟩);gi_at_call 112;refine (callsIn_wide.2 DY.out).mono ?_;rintro e w1 ⟨rfl,rfl⟩))
    refine hRd.mono ?_
    rintro e W3 (⟨rfl,hJ3,hk3⟩|⟨rfl,hJx3⟩)
    ·have c1:=a3R (hk3.2.trans hR)
     gi_wp2_with (first
      |((try refine⟨trivial,?_⟩);gi_at_call 295;refine (callsIn_wide.2 (LA.out W3)).mono ?_;rintro e w2 ⟨rfl,rfl⟩))
     go_roundw
     case rel=>exact⟨y2,m2,f',pre++[z],rfl,rfl,by simp[hx],by omega,by omega,l2,l3,by omega,hJ3,hk3.2.trans hR,a3c hT hk3.1 h10⟩
     case measure=>simp[intOf];omega
    ·gi_wp2
     refine bodyPost_ret (results_none rfl _ _ _) rfl ?_
     exact⟨⟨_,rfl⟩,.inr ⟨pre++[z],⟨Rd.b0e d r.ev f' y2 m2,by simp[hx]⟩,hJx3⟩⟩
  ·have q1:Rd.b0e d r.ev f y' m'=[]:=by cases f <;> simp[Rd.b0e,hc]
   have hc':Rd.reached y' m'=false:=by simpa using hc
   rw[q1,List.append_nil] at hx
   subst hx
   rw[hc'] at IR
   clear hri q1 hc hc'
   gi_wp2_with (first
    |((try refine⟨trivial,?_⟩);gi_at_call 294;refine (callsIn_wide.2 IR.out).mono ?_;rintro e w1 ⟨rfl,rfl⟩))
   go_end0
   exact⟨⟨_,rfl⟩,.inl ⟨_,rfl,hJ⟩⟩
theorem c1i(r:Rd.a0Y)(w:World):
  Calls Tryz.prog 278 #[a1S r] w fun e w'=>e=.returned (.func (.func 296) #[] #[.pointer (some ⟨w.heap.size,0,none⟩)])/\w'=w.alloc (a0u r):=by
 unfold a1S
 go_enter Tryz.func278,Tryz.ntmps278
 go_wp2_with fail
 exact bodyPost_ret (v:=.func (.func 296) #[] #[.pointer (some ⟨w.heap.size,0,none⟩)]) (by simp[results,Tryz.results278,go_sem]) rfl ⟨rfl,rfl⟩
theorem b7D(r:Rd.a0Y)(w:World):
  Calls Tryz.prog 276 #[a1S r] w fun e w'=>e=.returned (.func (.func 292) #[] #[.pointer (some ⟨w.heap.size,0,none⟩)])/\w'=w.alloc (a0u r):=by
 unfold a1S
 go_enter Tryz.func276,Tryz.ntmps276
 go_wp2_with fail
 exact bodyPost_ret (v:=.func (.func 292) #[] #[.pointer (some ⟨w.heap.size,0,none⟩)]) (by simp[results,Tryz.results276,go_sem]) rfl ⟨rfl,rfl⟩
theorem b4U(r:Rd.a0Y)(w:World):
  Calls Tryz.prog 277 #[a1S r] w fun e w'=>e=.returned (.func (.func 293) #[] #[.pointer (some ⟨w.heap.size,0,none⟩)])/\w'=w.alloc (a0u r):=by
 unfold a1S
 go_enter Tryz.func277,Tryz.ntmps277
 go_wp2_with fail
 exact bodyPost_ret (v:=.func (.func 293) #[] #[.pointer (some ⟨w.heap.size,0,none⟩)]) (by simp[results,Tryz.results277,go_sem]) rfl ⟨rfl,rfl⟩
def itF(r:Rd.a0Y):Nat:=if r.pc=2 then 292 else if r.pc=3 then 293 else 296
theorem a9C(r:Rd.a0Y)(w:World):
  Calls Tryz.prog 249 #[a1S r] w fun e w'=>e=.returned (.func (.func (itF r)) #[] #[.pointer (some ⟨w.heap.size+1,0,none⟩)])/\w'=(w.alloc (a0u r)).alloc (a0u r):=by
 have WK:=a0b (b7D r (w.alloc (a0u r)))
 have MO:=a0b (b4U r (w.alloc (a0u r)))
 have DA:=a0b (c1i r (w.alloc (a0u r)))
 have hr:=World.alloc_heap_new w (a0u r)
 have hs:(w.alloc (a0u r)).heap.size=w.heap.size+1:=by simp
 have x0:=a7u hr
 have x1:=a3R hr
 have x2:=a7t hr
 have x3:=a7s hr
 have x4:=a7r hr
 have x5:=a7q hr
 have x6:=a7p hr
 have x7:=a7o hr
 have x8:=a7n hr
 have x9:=a4m hr
 have x10:=a6E hr
 have x11:=a6D hr
 have x12:=a6C hr
 have x13:=a6B hr
 rw[hs] at WK MO DA
 clear hr hs
 unfold a1S at *
 obtain⟨X,hX⟩:∃ X,X=w.alloc (a0u r):=⟨_,rfl⟩
 rw[<- hX] at WK MO DA x0 x1 x2 x3 x4 x5 x6 x7 x8 x9 x10 x11 x12 x13
 have HX:=a0b hX
 clear hX
 by_cases h2:r.pc=2
 ·have hb:(r.pc==2)=true:=by simpa using h2
  have ei:itF r=292:=by unfold itF;rw[if_pos h2]
  rw[ei]
  clear ei h2
  go_enter Tryz.func249,Tryz.ntmps249
  go_upto_region 1 with fail
  change Code.wp _ _ _ _ (w.alloc (a0u r))
  rw[<- HX.out]
  go_wp2_with (first
   |(go_at_call 276;refine WK.out.mono ?_;rintro e w1 ⟨rfl,rfl⟩))
  exact bodyPost_ret (v:=.func (.func 292) #[] #[.pointer (some ⟨w.heap.size+1,0,none⟩)]) (by simp[results,Tryz.results249,go_sem]) rfl ⟨rfl,by rw[HX.out]⟩
 ·have hb:(r.pc==2)=false:=by simpa using h2
  by_cases h3:r.pc=3
  ·have hb3:(r.pc==3)=true:=by simpa using h3
   have ei:itF r=293:=by unfold itF;rw[if_neg h2,if_pos h3]
   rw[ei]
   clear ei h3
   go_enter Tryz.func249,Tryz.ntmps249
   go_upto_region 1 with fail
   change Code.wp _ _ _ _ (w.alloc (a0u r))
   rw[<- HX.out]
   go_wp2_with (first
    |(go_at_call 277;refine MO.out.mono ?_;rintro e w1 ⟨rfl,rfl⟩))
   exact bodyPost_ret (v:=.func (.func 293) #[] #[.pointer (some ⟨w.heap.size+1,0,none⟩)]) (by simp[results,Tryz.results249,go_sem]) rfl ⟨rfl,by rw[HX.out]⟩
  ·have hb3:(r.pc==3)=false:=by simpa using h3
   have ei:itF r=296:=by unfold itF;rw[if_neg h2,if_neg h3]
   rw[ei]
   clear ei
   go_enter Tryz.func249,Tryz.ntmps249
   go_upto_region 1 with fail
   change Code.wp _ _ _ _ (w.alloc (a0u r))
   rw[<- HX.out]
   go_wp2_with (first
    |(go_at_call 278;refine DA.out.mono ?_;rintro e w1 ⟨rfl,rfl⟩))
   exact bodyPost_ret (v:=.func (.func 296) #[] #[.pointer (some ⟨w.heap.size+1,0,none⟩)]) (by simp[results,Tryz.results249,go_sem]) rfl ⟨rfl,by rw[HX.out]⟩
theorem b6P(n:Nat)(hn:1<=n)(Bn n₀:Nat)(h10:10<=n₀)(r:Rd.a0Y)(hf:Rd.a6s r)(w:World)(hB:Bn<w.heap.size)(hn₀:n₀<=w.heap.size)(ht:Tab w)(hr:w.heap[Bn]?=some (a0u r)):
  SeqStopsK Fence.wide n Tryz.prog (itF r) #[.pointer (some ⟨Bn,0,none⟩)] (fun x:Int=>#[Value.int .i64 x]) (RK n₀ Bn) (fun ys=>ys=Rd.seq r) (fun pre=>pre <+: Rd.seq r) (Rd.seq r).length w:=by
 intro l J Jx W hW _ _ hY h0
 have hr':W.heap[Bn]?=some (a0u r):=(hW.block Bn hB).trans hr
 have ht':Tab W:=a3c ht hW (by omega)
 by_cases h2:r.pc=2
 ·have ei:itF r=292:=by unfold itF;rw[if_pos h2]
  have es:Rd.seq r=Rd.a9Y r.acc r.fr r.ev 800 (r.fr-r.fr % 7):=by unfold Rd.seq;rw[if_pos h2]
  rw[es] at hY ⊢
  rw[ei]
  exact b7E Fence.wide n trivial rfl hn l Bn n₀ r hf J Jx hY W hr' h0
 ·by_cases h3:r.pc=3
  ·have ei:itF r=293:=by unfold itF;rw[if_neg h2,if_pos h3]
   have es:Rd.seq r=Rd.b0e (Cal.dT r.fr) r.ev 100 (Cal.yT r.fr) (Cal.mT r.fr):=by unfold Rd.seq;rw[if_neg h2,if_pos h3]
   rw[es] at hY ⊢
   rw[ei]
   exact b4V n hn l Bn n₀ h10 r hf J Jx hY W ht' hr' h0
  ·have ei:itF r=296:=by unfold itF;rw[if_neg h2,if_neg h3]
   have es:Rd.seq r=Rd.b0f r.ev 800 r.fr:=by unfold Rd.seq;rw[if_neg h2,if_neg h3]
   rw[es] at hY ⊢
   rw[ei]
   exact c1j Fence.wide n trivial rfl hn l Bn n₀ r hf J Jx hY W hr' h0
attribute [local go_sem] Oper.semAt_some
structure FD(w W:World)(r:Rd.a0Y)(la mo:Int)(pre:List Int):Prop where
 l:Boxed W (w.heap.size+1) 3 (.int .i64 la)
 m:Boxed W (w.heap.size+2) 3 (.int .i64 mo)
 d:∃ v,Boxed W (w.heap.size+3) 38 v/\W.ownsRow (w.heap.size+6) 3 1 v pre.length (pre.map (Value.int .i64))
 ru:W.heap[w.heap.size+5]?=some (a0u r)
 bl:Below w.heap.size w W
 sz:w.heap.size+6<=W.heap.size
 le:∀ x∈pre,x<=la
 ml:(pre.length:Int)<=mo
theorem a6Z{W W':World}{row:Option Nat}{B:Nat}{t:TypeId}{v:Value}(h:Boxed W B t v)(hg:W.grownBy W' row)(hr:∀ r,row=some r->∃ o:Obj,W.heap[r]?=some o/\o.isCells=false):Boxed W' B t v :=
 h.kept hg (fun e=>by
  obtain⟨o,ho,hc⟩:=hr B e.symm
  rw[show W.heap[B]?=_ from h] at ho;cases ho;cases hc)
theorem b6Y(w:World)(r:Rd.a0Y)(la mo:Int){B:Nat}(hB:w.heap.size<=B):OwnFrom B (fun pre W=>FD w W r la mo pre):=by
 intro pre W W' row h hg hrow
 have hr:∀ r,row=some r->∃ o:Obj,W.heap[r]?=some o/\o.isCells=false:=fun r e=>(hrow r e).2
 obtain⟨v,hv,ho⟩:=h.d
 refine⟨a6Z h.l hg hr,a6Z h.m hg hr,⟨v,a6Z hv hg hr,ho.kept hg ?_⟩,(hg.block _ (by have:=h.sz;omega) (fun e=>?_)).trans h.ru,h.bl.grown hg h.bl.size (fun k e=>Nat.le_trans hB (hrow k e).1),Nat.le_trans h.sz hg.size,h.le,h.ml⟩
 ·rcases ho.2 with ⟨rfl,_⟩|⟨g,cap,cur,rfl,_,hgb,_⟩
  ·exact .inl rfl
  ·refine .inr fun e'=>?_
   obtain⟨o,ho,hc⟩:=hr g (by simpa[Value.ownBlock] using e'.symm)
   rw[hgb] at ho;cases ho;cases hc
 ·obtain⟨o,ho,hc⟩:=hr _ e.symm
  rw[h.ru] at ho;cases ho;cases hc
theorem c0Q{w W w1:World}{r:Rd.a0Y}{la mo:Int}{pre:List Int}{x:Int}(h:FD w W r la mo pre){v:Value}(hv:Boxed W (w.heap.size+3) 38 v)(ho:W.ownsRow (w.heap.size+6) 3 1 v pre.length (pre.map (Value.int .i64))){tmp:Obj}{v':Value}(hown:w1.ownsRow (w.heap.size+6) 3 1 v' (pre.length+1) (pre.map (Value.int .i64)++[.int .i64 x]))(hg:(W.alloc tmp).grownBy w1 v.ownBlock)(hx:x<=la)(hm:(pre.length:Int)+1<=mo):
  Boxed w1 (w.heap.size+3) 38 v/\KeepsFrom (w.heap.size+6) W (w1.setCell ⟨w.heap.size+3,0,none⟩ v')/\RK w.heap.size (w.heap.size+5) W (w1.setCell ⟨w.heap.size+3,0,none⟩ v')/\FD w (w1.setCell ⟨w.heap.size+3,0,none⟩ v') r la mo (pre++[x]):=by
 have hs:=h.sz
 have ob:∀ b,v.ownBlock=some b->w.heap.size+6<=b:=fun b hb=>(ho.lt b hb).1
 have ob':∀ b,v'.ownBlock=some b->w.heap.size+6<=b:=fun b hb=>(hown.lt b hb).1
 have k1:∀ b,b<w.heap.size+6->w1.heap[b]?=W.heap[b]?:=fun b hb =>
  (hg.block b (by simp;omega) (fun e=>by have:=ob b e.symm;omega)).trans (Below.heap_alloc W tmp b (by omega))
 have k2:∀ b,b≠w.heap.size+3->(w1.setCell ⟨w.heap.size+3,0,none⟩ v').heap[b]?=w1.heap[b]?:=fun b hb=>Below.heap_setCell _ _ _ b hb
 have hv1:Boxed w1 (w.heap.size+3) 38 v:=(k1 _ (by omega)).trans hv
 have sz1:W.heap.size<=w1.heap.size:=by have:=hg.size;simp at this;omega
 have bW:Below w.heap.size W (w1.setCell ⟨w.heap.size+3,0,none⟩ v'):=(((Below.refl _ W).alloc (by omega) tmp).grown hg (by simp;omega) (fun j e=>by have:=ob j e;omega)).setCell (p:=⟨w.heap.size+3,0,none⟩) (by show w.heap.size<=w.heap.size+3;omega) v'
 refine⟨hv1,?_,⟨bW,(k2 _ (by omega)).trans (k1 _ (by omega))⟩,⟨((k2 _ (by omega)).trans (k1 _ (by omega))).trans h.l,((k2 _ (by omega)).trans (k1 _ (by omega))).trans h.m,⟨v',hv1.set v',?_⟩,((k2 _ (by omega)).trans (k1 _ (by omega))).trans h.ru,h.bl.trans bW,?_,?_,?_⟩⟩
 ·refine (((KeepsOthers.alloc W tmp).trans (KeepsOthers.of_grownBy hg fun j o ej hj=>?_)).trans (KeepsOthers.setCell _ _ _)).from _
  rcases (ho.alloc tmp).2 with ⟨rfl,_⟩|⟨g,cap,cur,rfl,_,hgb,_⟩
  ·simp[Value.ownBlock] at ej
  ·obtain rfl:g=j:=by simpa[Value.ownBlock] using ej
   rw[hgb] at hj;cases hj;rfl
 ·have:=hown.kept (grownBy_setCell' w1 (w.heap.size+3) v') (.inr (fun e=>by have:=ob' _ e;omega))
  simpa using this
 ·have:=(grownBy_setCell' w1 (w.heap.size+3) v').size;omega
 ·intro y hy
  rcases List.mem_append.1 hy with hy|hy
  ·exact h.le y hy
  ·simp at hy;omega
 ·simp;omega
structure FD0(w Y:World)(r:Rd.a0Y)(la mo:Int):Prop where
 ru:Y.heap[w.heap.size]?=some (a0u r)
 l:Boxed Y (w.heap.size+1) 3 (.int .i64 la)
 m:Boxed Y (w.heap.size+2) 3 (.int .i64 mo)
 d:Boxed Y (w.heap.size+3) 38 (.slice none 0 0)
 bl:Below w.heap.size w Y
 sz:Y.heap.size=w.heap.size+4
theorem fd0(w:World)(r:Rd.a0Y)(la mo:Int):FD0 w ((((w.alloc (a0u r)).alloc (.cells #[.int .i64 la] 3)).alloc (.cells #[.int .i64 mo] 3)).alloc (.cells #[.slice none 0 0] 38)) r la mo:=by
 have b0:=World.alloc_heap_new w (a0u r)
 have b1:=Boxed.new (w.alloc (a0u r)) 3 (.int .i64 la)
 have b2:=Boxed.new ((w.alloc (a0u r)).alloc (.cells #[.int .i64 la] 3)) 3 (.int .i64 mo)
 have b3:=Boxed.new (((w.alloc (a0u r)).alloc (.cells #[.int .i64 la] 3)).alloc (.cells #[.int .i64 mo] 3)) 38 (.slice none 0 0)
 simp only[World.size_alloc] at b1 b2 b3
 have k:∀ (W:World) (o:Obj) (b:Nat) (x:Obj),W.heap[b]?=some x->(W.alloc o).heap[b]?=some x:=fun W o b x h=>(Below.heap_alloc W o b (Array.getElem?_eq_some_iff.1 h).1).trans h
 exact⟨k _ _ _ _ (k _ _ _ _ (k _ _ _ _ b0)),(b1.alloc _).alloc _,b2.alloc _,b3,((((Below.refl _ w).alloc (Nat.le_refl _) _).alloc (by simp) _).alloc (by simp;omega) _).alloc (by simp;omega) _,by simp⟩
theorem c7x(w:World)(r:Rd.a0Y)(la mo:Int):FD0 w (((((w.alloc (a0u r)).alloc (.cells #[.int .i64 la] 3)).alloc (.cells #[.int .i64 mo] 3)).drew).alloc (.cells #[.slice none 0 0] 38)) r la mo:=by
 obtain⟨h1,h2,h3,h4,h5,h6⟩:=fd0 w r la mo
 exact⟨h1,h2,h3,h4,h5.drew,h6⟩
theorem b6X{w Y:World}{r:Rd.a0Y}{la mo:Int}(hl:Boxed Y (w.heap.size+1) 3 (.int .i64 la))(hm:Boxed Y (w.heap.size+2) 3 (.int .i64 mo))(hd:Boxed Y (w.heap.size+3) 38 (.slice none 0 0))(hb:Below w.heap.size w Y)(hs:Y.heap.size=w.heap.size+4)(h0:0<=mo):FD w ((Y.alloc (a0u r)).alloc (a0u r)) r la mo []:=by
 have b:=World.alloc_heap_new (Y.alloc (a0u r)) (a0u r)
 rw[World.size_alloc,hs] at b
 exact⟨(hl.alloc _).alloc _,(hm.alloc _).alloc _,⟨_,(hd.alloc _).alloc _,World.ownsRow_nil _ _ _ _⟩,b,(hb.alloc (by omega) _).alloc (by simp;omega) _,by simp;omega,by simp,by simpa using h0⟩
theorem RK.trans{n₀ Bn:Nat}{A B C:World}(h:RK n₀ Bn A B)(k:RK n₀ Bn B C):RK n₀ Bn A C:=⟨h.1.trans k.1,k.2.trans h.2⟩
theorem RK.put{n₀ Bn:Nat}{w:World}(hn:n₀<=w.heap.size)(hB:Bn<w.heap.size)(W:World)(l:Nat)(o o':Obj)(hl:w.heap.size<=l)(h:W.heap[l]?=some o)(h1:o.isCells=false)(h2:o.isWalk=false):RK n₀ Bn W (W.putObj l o') :=
 ⟨belowK_b hn W l o o' hl h h1 h2,(grownBy_putObj' W l o').block Bn (by have:=(Array.getElem?_eq_some_iff.1 h).1;omega) (fun e=>by cases e;omega)⟩
theorem b3n(r:Rd.a0Y)(args:Array Value)(w:World):(callFunc (itF r) args).run Tryz.prog w=.ok (.enter (itF r) args) w:=by
 unfold itF
 split
 ·exact enters_of Tryz.func292 (by kernel_rfl) rfl args w
 ·split
  ·exact enters_of Tryz.func293 (by kernel_rfl) rfl args w
  ·exact enters_of Tryz.func296 (by kernel_rfl) rfl args w
theorem b1C{w:World}{B e size n:Nat}{v:Value}{xs:List Value}(h:w.ownsRow B e size v n xs):∃ a cap,v=.slice a n cap:=by
 rcases h.2 with ⟨rfl,h0⟩|⟨g,cap,_,rfl,_⟩
 ·rw[h0];exact⟨_,_,rfl⟩
 ·exact⟨_,_,rfl⟩
theorem a9c{w:World}{B C e size n:Nat}{v:Value}{xs:List Value}(h:w.ownsRow B e size v n xs)(hc:C<=B):w.ownsRow C e size v n xs :=
 ⟨h.1,h.2.imp id (fun ⟨g,cap,cur,h1,h2,h3⟩=>⟨g,cap,cur,h1,Nat.le_trans hc h2,h3⟩)⟩
theorem a5t{l:List Int}{p:Int->Bool}{k:Nat}(h:∀ x∈l,p x=true)(hk:l.length<=k):(l.takeWhile p).take k=l:=by
 have e:l.takeWhile p=l:=by
  induction l with
  |nil=>rfl
  |cons a l ih=>rw[List.takeWhile_cons,h a (by simp),if_pos rfl,ih (fun x hx=>h x (by simp[hx])) (by simp at hk;omega)]
 rw[e,List.take_of_length_le hk]
theorem b2D{pre rest:List Int}{x:Int}{p:Int->Bool}{k:Nat}(h:∀ y∈pre,p y=true)(hk:pre.length<=k)(hx:p x=false\/pre.length=k):((pre++x :: rest).takeWhile p).take k=pre:=by
 have e:(pre++x :: rest).takeWhile p=pre++(x :: rest).takeWhile p:=List.takeWhile_append_of_pos h
 rw[e]
 rcases hx with hx|hx
 ·rw[List.takeWhile_cons,hx]
  simp[List.take_of_length_le hk]
 ·rw[<- hx,List.take_left]
def laO(r:Rd.a0Y):Int:=if 0<r.ti then 727 else r.un
def moO(r:Rd.a0Y):Int:=if 0<r.ti then r.ti else 41
theorem a3N(r:Rd.a0Y):Rd.a0t r=((Rd.seq r).takeWhile (fun d=>decide (d<=laO r))).take (moO r).toNat:=by
 unfold Rd.a0t laO moO
 split
 ·rfl
 ·rfl
theorem b2a(r:Rd.a0Y)(hf:Rd.a6s r)(w:World)(ht:Tab w)(h10:10<=w.heap.size):
  Calls Tryz.prog 199 #[a1S r] w fun e w'=>∃ v,e=.returned v/\w'.ownsRow w.heap.size 3 1 v (Rd.a0t r).length ((Rd.a0t r).map (Value.int .i64))/\Below w.heap.size w w':=by
 obtain⟨i0,hi0,hz0,hz1,hz2⟩:=info_parts b1S
 have t1:=hf.t1
 refine (callsIn_wide (n:=3)).1 ?_
 unfold a1S
 refine callsIn_of_wp_marks Tryz.func199 rfl trivial ?_ rfl
 simp only[Tryz.ntmps199,List.size_toArray,List.length_cons,List.length_nil,Nat.reduceAdd,Nat.reduceSub,Array.replicate_succ,Array.replicate_zero,List.push_toArray,List.append_toArray,List.nil_append,List.cons_append]
 refine wpIn_wide.2 ?_
 by_cases hti:0<r.ti
 ·have elm:laO r=727/\moO r=r.ti:=by unfold laO moO;rw[if_pos hti,if_pos hti];exact⟨rfl,rfl⟩
  have HY:Hid (FD0 w (((((w.alloc (a0u r)).alloc (.cells #[.int .i64 727] 3)).alloc (.cells #[.int .i64 r.ti] 3)).drew).alloc (.cells #[.slice none 0 0] 38)) r 727 r.ti):=c7x w r 727 r.ti
  have EL:=a0b elm
  clear elm
  go_upto_region 4 with fail
  go_region
  go_upto_region 5 with fail
  change Code.wp _ _ _ _ (((((w.alloc (a0u r)).alloc (.cells #[.int .i64 727] 3)).alloc (.cells #[.int .i64 r.ti] 3)).drew).alloc (.cells #[.slice none 0 0] 38))
  generalize ((((w.alloc (a0u r)).alloc (.cells #[.int .i64 727] 3)).alloc (.cells #[.int .i64 r.ti] 3)).drew).alloc (.cells #[.slice none 0 0] 38)=Y at HY ⊢
  obtain⟨hYr,hYl,hYm,hYd,hYb,hYs⟩:=HY.out
  have EN:=a0b (a9C r Y)
  have HZ:=a0b (b6X (r:=r) hYl hYm hYd hYb hYs)
  have TZ:Hid (Tab ((Y.alloc (a0u r)).alloc (a0u r))):=a3c ht (HZ.out (by omega)).bl h10
  rw[hYs] at EN
  unfold a1S at EN
  have x0:=a7u hYr
  have x1:=a3R hYr
  have x2:=a7t hYr
  have x3:=a7s hYr
  have x4:=a7r hYr
  have x5:=a7q hYr
  have x6:=a7p hYr
  have x7:=a7o hYr
  have x8:=a7n hYr
  have x9:=a4m hYr
  have x10:=a6E hYr
  have x11:=a6D hYr
  have x12:=a6C hYr
  have x13:=a6B hYr
  clear hYr hYl hYm hYd hYb HY
  go_wp2_with (first
   |(go_at_call 249;refine EN.out.mono ?_;rintro e w1 ⟨rfl,rfl⟩))
  clear EN x0 x1 x2 x3 x4 x5 x6 x7 x8 x9 x10 x11 x12 x13
  have hZs:((Y.alloc (a0u r)).alloc (a0u r)).heap.size=w.heap.size+6:=by simp[hYs]
  generalize (Y.alloc (a0u r)).alloc (a0u r)=Z at HZ TZ hZs ⊢
  have hF:=HZ.out (by omega)
  have HS:=a0b (b6P 2 (by omega) (w.heap.size+5) w.heap.size h10 r hf Z (by omega) (by omega) TZ.out hF.ru)
  refine (wpIn_wide (n:=3)).1 ?_
  refine wpIn_rangeFunc_ownG rfl (by omega) (gf:=itF r) (lb:=#[.pointer (some ⟨w.heap.size+5,0,none⟩)]) rfl trivial (b3n r) HS.out (fun h k=>RK.trans h k) (RK.put (by omega) (by omega)) (Below.refl _ _) (fun _=>rfl)
   (fun pre W=>FD w W r 727 r.ti pre) (fun c pre' W=>c=.exit 0/\∃ pre x,pre'=pre++[x]/\FD w W r 727 r.ti pre/\(727<x\/(pre.length:Int)=r.ti))
   (b6Y w r 727 r.ti (by omega)) (fun c s A B row hs hg hr=>by obtain⟨e,pre,x,e2,h,h3⟩:=hs;exact⟨e,pre,x,e2,b6Y w r 727 r.ti (by omega) pre A B row h hg hr,h3⟩) hF
   (fun x=>{ tmps:=#[.agg #[.int .i64 r.pc,.int .i64 r.ev,.bool (isd r.acc 0),.bool (isd r.acc 1),.bool (isd r.acc 2),.bool (isd r.acc 3),.bool (isd r.acc 4),.bool (isd r.acc 5),.bool (isd r.acc 6),.int .i64 r.fr,.int .i64 r.mn,.int .i64 r.mi,.int .i64 r.ti,.int .i64 r.un],.pointer (some ⟨w.heap.size,0,none⟩),.slice none 0 0,.pointer (some ⟨w.heap.size+1,0,none⟩),.pointer (some ⟨w.heap.size+1+1,0,none⟩),.pointer (some ⟨w.heap.size+1+1+1,0,none⟩),.int .i64 x,.pointer (some ⟨w.heap.size,13,none⟩),.int .i64 r.un,.pointer (some ⟨w.heap.size,12,none⟩),.int .i64 r.ti,.bool true,.pointer (some ⟨w.heap.size,12,none⟩),.int .i64 r.ti,.agg #[.int .i64 r.pc,.int .i64 r.ev,.bool (isd r.acc 0),.bool (isd r.acc 1),.bool (isd r.acc 2),.bool (isd r.acc 3),.bool (isd r.acc 4),.bool (isd r.acc 5),.bool (isd r.acc 6),.int .i64 r.fr,.int .i64 r.mn,.int .i64 r.mi,.int .i64 r.ti,.int .i64 r.un],.func (.func (itF r)) #[] #[.pointer (some ⟨w.heap.size+5,0,none⟩)],.int .i64 x,undef,undef,undef,undef,undef,undef,undef,undef,undef,undef,undef,undef,undef,undef],defers:=[] }) ?assign ?body ?done ?stop
  case assign =>
   intro l x W K hK
   gi_wp2
   exact hK
  case body =>
   rintro l pre x W h hlt
   obtain⟨v,hv,hrow⟩:=h.d
   have hcl:=h.l.cell
   have hcm:=h.m.cell
   have hcd:=hv.cell
   have hml:=h.ml
   have HI:=a0b h
   obtain⟨a0,cap0,rfl⟩:=b1C hrow
   have hsz:w.heap.size+6<=W.heap.size:=h.sz
   by_cases c1:727<x
   ·clear h hrow hv
    gi_wp2
    exact⟨KeepsFrom.refl _ _,rfl,pre,x,rfl,HI.out,.inl c1⟩
   ·by_cases c2:(pre.length:Int)=r.ti
    ·have c2b:((pre.length:Int)==r.ti)=true:=by simpa using c2
     have C2:=a0b c2
     clear h hrow hv c2
     gi_wp2
     exact⟨KeepsFrom.refl _ _,rfl,pre,x,rfl,HI.out,.inr C2.out⟩
    ·have c2b:((pre.length:Int)==r.ti)=false:=by simpa using c2
     clear h
     gi_wp2_with (first
      |(gi_at_builtin;refine wpListIn_append_own _ rfl _ _ 38 rfl (w.heap.size+6) 3 i0 (.int .i64 0) 1 8 Tryz.underlying38 hi0 hz0 hz1 hz2 rfl (by decide) _ _ _ rfl (hrow.alloc _) ⟨W.heap.size,0,none⟩ 1 1 [.int .i64 x] rfl rfl (cell_one_new _ _ _) (by simp[Value.oneCell']) (by unfold maxLen;omega) (by omega) (by simp;omega) ?_;intro v' w1 hown' hgrow _;obtain⟨g',cap',rfl⟩:=ownsRow_succ hown';obtain⟨hv1,hk2,hrk,hfd⟩:=c0Q HI.out hv hrow hown' hgrow (by omega) (by omega);have hc1:=hv1.cell;have hf1:=hv1.frozen))
     exact⟨hk2,hrk,hfd⟩
  case done =>
   rintro D ys W hD rfl h hK
   have ED:Hid (Rd.a0t r=Rd.seq r):=by
    show Rd.a0t r=Rd.seq r
    have h0:=h.ml
    rw[a3N,EL.out.1,EL.out.2]
    exact a5t (fun y hy=>by simpa using h.le y hy) (by omega)
   obtain⟨v,hv,hrow⟩:=h.d
   have hc:=hv.cell
   have hb:=h.bl
   obtain⟨a0,cap0,rfl⟩:=b1C hrow
   clear h
   go_wp2_with fail
   refine⟨by simp,.inl ⟨_,_,rfl,run_takeDeferred hK,?_⟩⟩
   refine⟨_,results_tmp rfl _ _ _,_,rfl,?_,hb.trans (belowK_b (w:=w) (Nat.le_refl _) W D _ _ (by omega) hK rfl rfl)⟩
   rw[ED.out]
   exact ownsRow_putObj (a9c hrow (by omega)) _ hK rfl
  case stop =>
   rintro D c pre' W hD hSp ⟨rfl,pre,x,rfl,h,hx⟩ hK
   have ED:Hid (Rd.a0t r=pre):=by
    obtain⟨rest,hrest⟩:=hSp
    show Rd.a0t r=pre
    have h0:=h.ml
    rw[a3N,EL.out.1,EL.out.2,<- hrest,List.append_assoc]
    exact b2D (fun y hy=>by simpa using h.le y hy) (by omega) (hx.imp (fun e=>by simpa using e) (fun e=>by omega))
   obtain⟨v,hv,hrow⟩:=h.d
   have hc:=hv.cell
   have hb:=h.bl
   obtain⟨a0,cap0,rfl⟩:=b1C hrow
   clear h
   refine wpIn_wide.2 ?_
   go_wp2_with fail
   refine⟨by simp,.inl ⟨_,_,rfl,run_takeDeferred hK,?_⟩⟩
   refine⟨_,results_tmp rfl _ _ _,_,rfl,?_,hb.trans (belowK_b (w:=w) (Nat.le_refl _) W D _ _ (by omega) hK rfl rfl)⟩
   rw[ED.out]
   exact ownsRow_putObj (a9c hrow (by omega)) _ hK rfl
 ·have elm:laO r=r.un/\moO r=41:=by unfold laO moO;rw[if_neg hti,if_neg hti];exact⟨rfl,rfl⟩
  have HY:Hid (FD0 w ((((w.alloc (a0u r)).alloc (.cells #[.int .i64 r.un] 3)).alloc (.cells #[.int .i64 41] 3)).alloc (.cells #[.slice none 0 0] 38)) r r.un 41):=fd0 w r r.un 41
  have EL:=a0b elm
  clear elm
  go_upto_region 5 with fail
  change Code.wp _ _ _ _ ((((w.alloc (a0u r)).alloc (.cells #[.int .i64 r.un] 3)).alloc (.cells #[.int .i64 41] 3)).alloc (.cells #[.slice none 0 0] 38))
  generalize (((w.alloc (a0u r)).alloc (.cells #[.int .i64 r.un] 3)).alloc (.cells #[.int .i64 41] 3)).alloc (.cells #[.slice none 0 0] 38)=Y at HY ⊢
  obtain⟨hYr,hYl,hYm,hYd,hYb,hYs⟩:=HY.out
  have EN:=a0b (a9C r Y)
  have HZ:=a0b (b6X (r:=r) hYl hYm hYd hYb hYs)
  have TZ:Hid (Tab ((Y.alloc (a0u r)).alloc (a0u r))):=a3c ht (HZ.out (by omega)).bl h10
  rw[hYs] at EN
  unfold a1S at EN
  have x0:=a7u hYr
  have x1:=a3R hYr
  have x2:=a7t hYr
  have x3:=a7s hYr
  have x4:=a7r hYr
  have x5:=a7q hYr
  have x6:=a7p hYr
  have x7:=a7o hYr
  have x8:=a7n hYr
  have x9:=a4m hYr
  have x10:=a6E hYr
  have x11:=a6D hYr
  have x12:=a6C hYr
  have x13:=a6B hYr
  clear hYr hYl hYm hYd hYb HY
  go_wp2_with (first
   |(go_at_call 249;refine EN.out.mono ?_;rintro e w1 ⟨rfl,rfl⟩))
  clear EN x0 x1 x2 x3 x4 x5 x6 x7 x8 x9 x10 x11 x12 x13
  have hZs:((Y.alloc (a0u r)).alloc (a0u r)).heap.size=w.heap.size+6:=by simp[hYs]
  generalize (Y.alloc (a0u r)).alloc (a0u r)=Z at HZ TZ hZs ⊢
  have hF:=HZ.out (by omega)
  have HS:=a0b (b6P 2 (by omega) (w.heap.size+5) w.heap.size h10 r hf Z (by omega) (by omega) TZ.out hF.ru)
  refine (wpIn_wide (n:=3)).1 ?_
  refine wpIn_rangeFunc_ownG rfl (by omega) (gf:=itF r) (lb:=#[.pointer (some ⟨w.heap.size+5,0,none⟩)]) rfl trivial (b3n r) HS.out (fun h k=>RK.trans h k) (RK.put (by omega) (by omega)) (Below.refl _ _) (fun _=>rfl)
   (fun pre W=>FD w W r r.un 41 pre) (fun c pre' W=>c=.exit 0/\∃ pre x,pre'=pre++[x]/\FD w W r r.un 41 pre/\(r.un<x\/(pre.length:Int)=41))
   (b6Y w r r.un 41 (by omega)) (fun c s A B row hs hg hr=>by obtain⟨e,pre,x,e2,h,h3⟩:=hs;exact⟨e,pre,x,e2,b6Y w r r.un 41 (by omega) pre A B row h hg hr,h3⟩) hF
   (fun x=>{ tmps:=#[.agg #[.int .i64 r.pc,.int .i64 r.ev,.bool (isd r.acc 0),.bool (isd r.acc 1),.bool (isd r.acc 2),.bool (isd r.acc 3),.bool (isd r.acc 4),.bool (isd r.acc 5),.bool (isd r.acc 6),.int .i64 r.fr,.int .i64 r.mn,.int .i64 r.mi,.int .i64 r.ti,.int .i64 r.un],.pointer (some ⟨w.heap.size,0,none⟩),.slice none 0 0,.pointer (some ⟨w.heap.size+1,0,none⟩),.pointer (some ⟨w.heap.size+1+1,0,none⟩),.pointer (some ⟨w.heap.size+1+1+1,0,none⟩),.int .i64 x,.pointer (some ⟨w.heap.size,13,none⟩),.int .i64 r.un,.pointer (some ⟨w.heap.size,12,none⟩),.int .i64 r.ti,.bool false,undef,undef,.agg #[.int .i64 r.pc,.int .i64 r.ev,.bool (isd r.acc 0),.bool (isd r.acc 1),.bool (isd r.acc 2),.bool (isd r.acc 3),.bool (isd r.acc 4),.bool (isd r.acc 5),.bool (isd r.acc 6),.int .i64 r.fr,.int .i64 r.mn,.int .i64 r.mi,.int .i64 r.ti,.int .i64 r.un],.func (.func (itF r)) #[] #[.pointer (some ⟨w.heap.size+5,0,none⟩)],.int .i64 x,undef,undef,undef,undef,undef,undef,undef,undef,undef,undef,undef,undef,undef,undef],defers:=[] }) ?assign ?body ?done ?stop
  case assign =>
   intro l x W K hK
   gi_wp2
   exact hK
  case body =>
   rintro l pre x W h hlt
   obtain⟨v,hv,hrow⟩:=h.d
   have hcl:=h.l.cell
   have hcm:=h.m.cell
   have hcd:=hv.cell
   have hml:=h.ml
   have HI:=a0b h
   obtain⟨a0,cap0,rfl⟩:=b1C hrow
   have hsz:w.heap.size+6<=W.heap.size:=h.sz
   by_cases c1:r.un<x
   ·clear h hrow hv
    gi_wp2
    exact⟨KeepsFrom.refl _ _,rfl,pre,x,rfl,HI.out,.inl c1⟩
   ·by_cases c2:(pre.length:Int)=41
    ·have c2b:((pre.length:Int)==41)=true:=by simpa using c2
     have C2:=a0b c2
     clear h hrow hv c2
     gi_wp2
     exact⟨KeepsFrom.refl _ _,rfl,pre,x,rfl,HI.out,.inr C2.out⟩
    ·have c2b:((pre.length:Int)==41)=false:=by simpa using c2
     clear h
     gi_wp2_with (first
      |(gi_at_builtin;refine wpListIn_append_own _ rfl _ _ 38 rfl (w.heap.size+6) 3 i0 (.int .i64 0) 1 8 Tryz.underlying38 hi0 hz0 hz1 hz2 rfl (by decide) _ _ _ rfl (hrow.alloc _) ⟨W.heap.size,0,none⟩ 1 1 [.int .i64 x] rfl rfl (cell_one_new _ _ _) (by simp[Value.oneCell']) (by unfold maxLen;omega) (by omega) (by simp;omega) ?_;intro v' w1 hown' hgrow _;obtain⟨g',cap',rfl⟩:=ownsRow_succ hown';obtain⟨hv1,hk2,hrk,hfd⟩:=c0Q HI.out hv hrow hown' hgrow (by omega) (by omega);have hc1:=hv1.cell;have hf1:=hv1.frozen))
     exact⟨hk2,hrk,hfd⟩
  case done =>
   rintro D ys W hD rfl h hK
   have ED:Hid (Rd.a0t r=Rd.seq r):=by
    show Rd.a0t r=Rd.seq r
    have h0:=h.ml
    rw[a3N,EL.out.1,EL.out.2]
    exact a5t (fun y hy=>by simpa using h.le y hy) (by omega)
   obtain⟨v,hv,hrow⟩:=h.d
   have hc:=hv.cell
   have hb:=h.bl
   obtain⟨a0,cap0,rfl⟩:=b1C hrow
   clear h
   go_wp2_with fail
   refine⟨by simp,.inl ⟨_,_,rfl,run_takeDeferred hK,?_⟩⟩
   refine⟨_,results_tmp rfl _ _ _,_,rfl,?_,hb.trans (belowK_b (w:=w) (Nat.le_refl _) W D _ _ (by omega) hK rfl rfl)⟩
   rw[ED.out]
   exact ownsRow_putObj (a9c hrow (by omega)) _ hK rfl
  case stop =>
   rintro D c pre' W hD hSp ⟨rfl,pre,x,rfl,h,hx⟩ hK
   have ED:Hid (Rd.a0t r=pre):=by
    obtain⟨rest,hrest⟩:=hSp
    show Rd.a0t r=pre
    have h0:=h.ml
    rw[a3N,EL.out.1,EL.out.2,<- hrest,List.append_assoc]
    exact b2D (fun y hy=>by simpa using h.le y hy) (by omega) (hx.imp (fun e=>by simpa using e) (fun e=>by omega))
   obtain⟨v,hv,hrow⟩:=h.d
   have hc:=hv.cell
   have hb:=h.bl
   obtain⟨a0,cap0,rfl⟩:=b1C hrow
   clear h
   refine wpIn_wide.2 ?_
   go_wp2_with fail
   refine⟨by simp,.inl ⟨_,_,rfl,run_takeDeferred hK,?_⟩⟩
   refine⟨_,results_tmp rfl _ _ _,_,rfl,?_,hb.trans (belowK_b (w:=w) (Nat.le_refl _) W D _ _ (by omega) hK rfl rfl)⟩
   rw[ED.out]
   exact ownsRow_putObj (a9c hrow (by omega)) _ hK rfl
def a0U(r:Rd.a0Y):List Int:=if Rd.a0L r=0 then Rd.a0t r else []
theorem b1Z{r:Rd.a0Y}(h:Rd.a6s r){x:Int}(hx:x∈Rd.a0t r):0<=x/\x<728:=by
 have f0:=h.f0
 rw[Rd.b3M h] at hx
 split at hx
 ·have:=Rd.a4x h hx;omega
 ·have:=Rd.a4x h (List.mem_of_mem_take hx);omega
theorem c2W{l:List Int}(h:l≠[]):l[l.length-1]?=some (l.getLastD 0):=by
 rw[<- List.getLast?_eq_getElem?,List.getLast?_eq_some_getLast h,List.getLastD_eq_getLast?,List.getLast?_eq_some_getLast h]
 rfl
theorem c3i(r:Rd.a0Y)(h:Rd.a6s r):(Rd.a0t r).length<=99:=by
 have:=h.t1
 unfold Rd.a0t
 split
 ·rw[List.length_take];omega
 ·rw[List.length_take];omega
theorem c6T{w w':World}{B e size n:Nat}{v:Value}{xs:List Value}(h:w.ownsRow B e size v n xs)(k:Below w.heap.size w w'):w'.ownsRow B e size v n xs:=by
 refine⟨h.1,h.2.imp id (fun ⟨g,cap,cur,h1,h2,h3,h4⟩=>⟨g,cap,cur,h1,h2,(k.block g (Array.getElem?_eq_some_iff.1 h3).1).trans h3,h4⟩)⟩
theorem b9R{w:World}{B e size n:Nat}{v:Value}{xs:List Value}(h:w.ownsRow B e size v n xs):w.drew.ownsRow B e size v n xs:=⟨h.1,h.2⟩
theorem b7z(r:Rd.a0Y)(hf:Rd.a6s r)(w:World)(ht:Tab w)(h10:10<=w.heap.size):
  Calls Tryz.prog 147 #[a1S r] w fun e w'=>∃ v,e=.returned (.tuple #[v,.int .i64 (Rd.a0L r)])/\w'.ownsRow w.heap.size 3 1 v (a0U r).length ((a0U r).map (Value.int .i64))/\Below w.heap.size w w':=by
 have hX:Below w.heap.size w (w.alloc (a0u r)):=(Below.refl _ _).alloc (Nat.le_refl _) _
 have hr:=World.alloc_heap_new w (a0u r)
 have hs:(w.alloc (a0u r)).heap.size=w.heap.size+1:=by simp
 have FI:=a0b (b2a r hf (w.alloc (a0u r)) (a3c ht hX h10) (by rw[hs];omega))
 have x0:=a7u hr
 have x1:=a3R hr
 have x2:=a7t hr
 have x3:=a7s hr
 have x4:=a7r hr
 have x5:=a7q hr
 have x6:=a7p hr
 have x7:=a7o hr
 have x8:=a7n hr
 have x9:=a4m hr
 have x10:=a6E hr
 have x11:=a6D hr
 have x12:=a6C hr
 have x13:=a6B hr
 have HX:=a0b (And.intro hX (And.intro hs hr))
 have hlen:=c3i r hf
 have HF:=a0b hf
 have GE:Hid (Rd.a0L r=if 40<r.ti then 11 else if 40<(Rd.a0t r).length then 11 else if Rd.a0t r=[]\/((Rd.a0t r).length:Int)<r.ti then 6 else if Rd.a8m r ((Rd.a0t r).getLastD 0) then 6 else 0):=rfl
 have GD:Hid (a0U r=if Rd.a0L r=0 then Rd.a0t r else []):=rfl
 have t1:=hf.t1
 clear hX hr hs ht hf
 unfold a1S at *
 by_cases c1:40<r.ti
 ·have e1:Rd.a0L r=11:=by rw[GE.out,if_pos c1]
  have e2:a0U r=[]:=by rw[GD.out,e1];simp
  rw[e1,e2]
  clear FI GE GD e1 e2
  go_enter Tryz.func147,Tryz.ntmps147
  go_upto_region 1 with fail
  change Code.wp _ _ _ _ (w.alloc (a0u r))
  generalize w.alloc (a0u r)=X at *
  go_wp2_with fail
  exact bodyPost_ret (v:=.tuple #[.slice none 0 0,.int .i64 11]) (by simp[results,Tryz.results147,go_sem]) rfl ⟨_,rfl,World.ownsRow_nil _ _ _ _,HX.out.1⟩
 ·rw[if_neg c1] at GE
  go_enter Tryz.func147,Tryz.ntmps147
  go_upto_region 1 with fail
  change Code.wp _ _ _ _ (w.alloc (a0u r))
  generalize w.alloc (a0u r)=X at *
  go_upto_region 4 with (first
   |(go_at_call 199;refine FI.out.mono ?_;rintro e w1 ⟨v,rfl,own,hb⟩))
  obtain⟨a,cap,rfl⟩:=b1C own
  have BW:Hid (Below w.heap.size w w1):=HX.out.1.trans (hb.mono (by rw[HX.out.2.1];omega))
  have OW:Hid (w1.ownsRow w.heap.size 3 1 (.slice a (Rd.a0t r).length cap) (Rd.a0t r).length ((Rd.a0t r).map (Value.int .i64))):=a9c own (by rw[HX.out.2.1];omega)
  have MB:Hid (∀ x∈Rd.a0t r,0<=x/\x<728):=fun x hx=>b1Z HF.out hx
  have y0:=a0a hb x0
  have y1:=a0a hb x1
  have y2:=a0a hb x2
  have y3:=a0a hb x3
  have y4:=a0a hb x4
  have y5:=a0a hb x5
  have y6:=a0a hb x6
  have y7:=a0a hb x7
  have y8:=a0a hb x8
  have y9:=a0a hb x9
  have y10:=a0a hb x10
  have y11:=a0a hb x11
  have y12:=a0a hb x12
  have y13:=a0a hb x13
  clear FI x0 x1 x2 x3 x4 x5 x6 x7 x8 x9 x10 x11 x12 x13 own hb HX
  generalize Rd.a0t r=L at *
  by_cases c2:40<L.length
  ·have e1:Hid (Rd.a0L r=11):=by show Rd.a0L r=11;rw[GE.out,if_pos c2]
   have e2:Hid (a0U r=[]):=by show a0U r=[];rw[GD.out,e1.out];simp
   have c2':(40:Int)<(L.length:Int):=by omega
   clear y0 y1 y2 y3 y4 y5 y6 y7 y8 y9 y10 y11 y12 y13 c2
   go_wp2_with fail
   exact bodyPost_ret (v:=.tuple #[.slice none 0 0,.int .i64 11]) (by simp[results,Tryz.results147,go_sem]) rfl ⟨_,by rw[e1.out],by rw[e2.out];exact World.ownsRow_nil _ _ _ _,BW.out⟩
  ·have c2':¬ (40:Int)<(L.length:Int):=by omega
   by_cases c3:L=[]
   ·have e1:Hid (Rd.a0L r=6):=by show Rd.a0L r=6;rw[GE.out,if_neg c2,if_pos (.inl c3)]
    have e2:Hid (a0U r=[]):=by show a0U r=[];rw[GD.out,e1.out];simp
    have c3':((L.length:Int)==0)=true:=by rw[c3];rfl
    clear y0 y1 y2 y3 y4 y5 y6 y7 y8 y9 y10 y11 y13 c3 c2
    go_wp2_with fail
    exact bodyPost_ret (v:=.tuple #[.slice none 0 0,.int .i64 6]) (by simp[results,Tryz.results147,go_sem]) rfl ⟨_,by rw[e1.out],by rw[e2.out];exact World.ownsRow_nil _ _ _ _,BW.out⟩
   ·have h0:0<L.length:=List.length_pos_iff.2 c3
    have c3':((L.length:Int)==0)=false:=by simp;omega
    by_cases c4:(L.length:Int)<r.ti
    ·have e1:Hid (Rd.a0L r=6):=by show Rd.a0L r=6;rw[GE.out,if_neg c2,if_pos (.inr c4)]
     have e2:Hid (a0U r=[]):=by show a0U r=[];rw[GD.out,e1.out];simp
     clear y0 y1 y2 y3 y4 y5 y6 y7 y8 y9 y10 y11 y13 c3 c2
     go_wp2_with fail
     exact bodyPost_ret (v:=.tuple #[.slice none 0 0,.int .i64 6]) (by simp[results,Tryz.results147,go_sem]) rfl ⟨_,by rw[e1.out],by rw[e2.out];exact World.ownsRow_nil _ _ _ _,BW.out⟩
    ·obtain⟨Hh,cap',e0⟩:=Joins.ownsRow_form OW.out (by omega)
     simp only[Value.slice.injEq,true_and] at e0
     obtain⟨rfl,rfl⟩:=e0
     have a0:=OW.out.cellAt (L.length-1) (by omega)
     rw[List.getElem?_map,c2W c3,Option.map_some] at a0
     have hl:=MB.out (L.getLastD 0) (by rw[List.getLastD_eq_getLast?,List.getLast?_eq_some_getLast c3];exact List.getLast_mem c3)
     have SO:=a0b (b0u r HF.out (L.getLastD 0) hl.1 (by omega) w1.drew)
     have GE4:Hid (Rd.a0L r=if Rd.a8m r (L.getLastD 0) then 6 else 0):=by show Rd.a0L r=_;rw[GE.out,if_neg c2,if_neg (by rintro (h|h) <;> contradiction)]
     have LB:Hid (Rd.a8m r (L.getLastD 0)=decide (1048320<(a4K r (L.getLastD 0)).2)):=rfl
     have k1:IntKind.i64.wrap ((L.length:Int)-1)=((L.length-1:Nat):Int):=by rw[show (L.length:Int)-1=((L.length-1:Nat):Int) from by omega];exact a0i (by omega) (by omega)
     have k2:((L.length-1:Nat):Int)<(L.length:Int):=by omega
     generalize (a4K r (L.getLastD 0)).2=til at *
     generalize (a4K r (L.getLastD 0)).1=fro at *
     generalize L.getLastD 0=ld at *
     unfold a1S at SO
     clear c3 hl c2 MB GE
     have hfd:∀ w:World,(Instr.field 60 (.agg #[.int .i64 fro,.int .i64 til]) 1).run Tryz.prog w=.ok (.int .i64 til) w:=fun _=>by kernel_rfl
     by_cases c5:1048320<til
     ·have e1:Hid (Rd.a0L r=6):=by show Rd.a0L r=6;rw[GE4.out,LB.out];simp[c5]
      have e2:Hid (a0U r=[]):=by show a0U r=[];rw[GD.out,e1.out];simp
      go_upto_region 9 with fail
      go_region_with (first
       |(go_at_call 200;refine SO.out.mono ?_;rintro e w2 ⟨rfl,hb2⟩))
      all_goals
       have BF:Hid (Below w.heap.size w w2):=BW.out.drew.trans (hb2.mono BW.out.size)
       clear hb2 y0 y1 y2 y3 y4 y5 y6 y7 y8 y9 y10 y11 y12 y13 a0
       go_wp2_with fail
       exact bodyPost_ret (v:=.tuple #[.slice none 0 0,.int .i64 6]) (by simp[results,Tryz.results147,go_sem]) rfl ⟨_,by rw[e1.out],by rw[e2.out];exact World.ownsRow_nil _ _ _ _,BF.out⟩
     ·have e1:Hid (Rd.a0L r=0):=by show Rd.a0L r=0;rw[GE4.out,LB.out];simp[c5]
      have e2:Hid (a0U r=L):=by show a0U r=L;rw[GD.out,e1.out];simp
      go_upto_region 9 with fail
      go_region_with (first
       |(go_at_call 200;refine SO.out.mono ?_;rintro e w2 ⟨rfl,hb2⟩))
      all_goals
       have BF:Hid (Below w.heap.size w w2/\w2.ownsRow w.heap.size 3 1 (.slice (some ⟨Hh,0,none⟩) L.length cap) L.length (L.map (Value.int .i64))):=⟨BW.out.drew.trans (hb2.mono BW.out.size),c6T (w:=w1.drew) (b9R OW.out) hb2⟩
       clear hb2 y0 y1 y2 y3 y4 y5 y6 y7 y8 y9 y10 y11 y12 y13 a0
       go_wp2_with fail
       exact bodyPost_ret (v:=.tuple #[.slice (some ⟨Hh,0,none⟩) L.length cap,.int .i64 0]) (by simp[results,Tryz.results147,go_sem]) rfl ⟨_,by rw[e1.out],by rw[e2.out];exact BF.out.2,BF.out.1⟩
open Go.RowKit
open Desk (Ent St Ids kept a0C a0Q a1C a2e ofB a0y a2c Mid a1H a0z Inv)
theorem DSt.ansDays{w Z:World}{d:Nat}{s:St}{r:Raw}{col:Nat->Option Col}(h:DSt w d s r col)(k:Below w.heap.size w Z){Q:Nat}(hQ:w.heap.size<=Q){l:List Int}{da:Value}(own:Z.ownsRow (Q+1) 3 1 da l.length (l.map (Value.int .i64)))(n:Int)(a b c e f g i:Value):
  a0l w d col (s,⟨0,0,n,[],l,[],[]⟩) (a0s 0 0 n (.slice none 0 0) da (.slice none 0 0) (.slice none 0 0)) (a2w Z Q a b c e f g i):=by
 have ko:=a2R Z Q a b c e f g i
 have dz:=h.dk.later k
 have nq:∀ b,Q<=b->col b=none:=fun b hb=>h.dk.none (by omega)
 have st:Step anyS w.heap.size col col Z (a2w Z Q a b c e f g i):=⟨⟨_,ko,fun x hx=>.inr (by have:x=Q:=List.mem_singleton.1 hx;subst this;exact⟨nq _ (Nat.le_refl _),hQ⟩)⟩,fun _ _ h=>h,fun _ _ h=>.inl h⟩
 have rp:a5m Z (Q+1) col (a0s 0 0 n (.slice none 0 0) da (.slice none 0 0) (.slice none 0 0)) ⟨0,0,n,[],l,[],[]⟩ :=
  ⟨_,_,_,_,[],rfl,rfl,a3j.nil _ _ _,⟨own,fun b hb=>nq b (by have:=(own.lt b hb).1;omega)⟩,a2I.nil _ _ _,a2I.nil _ _ _,fun b hb=>by cases hb⟩
 exact⟨r,col,dz.off ko (fun x hx=>by have:x=Q:=List.mem_singleton.1 hx;subst this;exact nq _ (Nat.le_refl _)),h.of,h.wl,h.hl,(Step.below k).trans st,(rp.off ko (fun x hx=>by have:x=Q:=List.mem_singleton.1 hx;omega)).base (by omega)⟩
theorem a9G{s:St}{r:Rd.a0Y}(hf:Rd.a6s r)(h:Rd.a0L r≠0):Desk.a0g s (.expand r)=(s,Desk.Rep.error (Rd.a0L r)):=by
 have e:=(Rd.a5K hf).1
 simp only[Desk.a0g]
 rw[<- e,if_pos h]
theorem b5n{s:St}{r:Rd.a0Y}(hf:Rd.a6s r)(h:Rd.a0L r=0):Desk.a0g s (.expand r)=(s,⟨0,0,((a0U r).length:Int),[],a0U r,[],[]⟩):=by
 obtain⟨e1,e2⟩:=Rd.a5K hf
 have e3:=(e2 (by rw[<- e1];exact h)).1
 have e4:a0U r=Rd.a0E r:=by unfold a0U;rw[if_pos h,e3]
 simp only[Desk.a0g]
 rw[<- e1,if_neg (by omega),e4]
 rfl
theorem c0R(w:World)(r:Rd.a0Y):let X:=((w.alloc (.cells #[.int .i64 r.pc,.int .i64 r.ev,.bool (isd r.acc 0),.bool (isd r.acc 1),.bool (isd r.acc 2),.bool (isd r.acc 3),.bool (isd r.acc 4),.bool (isd r.acc 5),.bool (isd r.acc 6),.int .i64 r.fr,.int .i64 r.mn,.int .i64 r.mi,.int .i64 r.ti,.int .i64 r.un] 180)).alloc a0f);Below w.heap.size w X/\X.heap[w.heap.size+1]?=some a0f/\X.heap.size=w.heap.size+2/\X.heap[w.heap.size]?=some (.cells #[.int .i64 r.pc,.int .i64 r.ev,.bool (isd r.acc 0),.bool (isd r.acc 1),.bool (isd r.acc 2),.bool (isd r.acc 3),.bool (isd r.acc 4),.bool (isd r.acc 5),.bool (isd r.acc 6),.int .i64 r.fr,.int .i64 r.mn,.int .i64 r.mi,.int .i64 r.ti,.int .i64 r.un] 180 (0,0)):=by
 obtain⟨h1,h2⟩:=a2q (w:=w) (.cells #[.int .i64 r.pc,.int .i64 r.ev,.bool (isd r.acc 0),.bool (isd r.acc 1),.bool (isd r.acc 2),.bool (isd r.acc 3),.bool (isd r.acc 4),.bool (isd r.acc 5),.bool (isd r.acc 6),.int .i64 r.fr,.int .i64 r.mn,.int .i64 r.mi,.int .i64 r.ti,.int .i64 r.un] 180)
 exact⟨h1,h2,by simp,(Below.heap_alloc _ _ _ (by simp)).trans (World.alloc_heap_new w _)⟩
theorem c6B{w:World}{b:Nat}{r:Rd.a0Y}(h:w.heap[b]?=some (.cells #[.int .i64 r.pc,.int .i64 r.ev,.bool (isd r.acc 0),.bool (isd r.acc 1),.bool (isd r.acc 2),.bool (isd r.acc 3),.bool (isd r.acc 4),.bool (isd r.acc 5),.bool (isd r.acc 6),.int .i64 r.fr,.int .i64 r.mn,.int .i64 r.mi,.int .i64 r.ti,.int .i64 r.un] 180 (0,0))):w.cell? ⟨b,0,none⟩=some (.int .i64 r.pc):=by simp only[World.cell?,h];rfl
theorem c6A{w:World}{b:Nat}{r:Rd.a0Y}(h:w.heap[b]?=some (.cells #[.int .i64 r.pc,.int .i64 r.ev,.bool (isd r.acc 0),.bool (isd r.acc 1),.bool (isd r.acc 2),.bool (isd r.acc 3),.bool (isd r.acc 4),.bool (isd r.acc 5),.bool (isd r.acc 6),.int .i64 r.fr,.int .i64 r.mn,.int .i64 r.mi,.int .i64 r.ti,.int .i64 r.un] 180 (0,0))):w.cell? ⟨b,1,none⟩=some (.int .i64 r.ev):=by simp only[World.cell?,h];rfl
theorem c6z{w:World}{b:Nat}{r:Rd.a0Y}(h:w.heap[b]?=some (.cells #[.int .i64 r.pc,.int .i64 r.ev,.bool (isd r.acc 0),.bool (isd r.acc 1),.bool (isd r.acc 2),.bool (isd r.acc 3),.bool (isd r.acc 4),.bool (isd r.acc 5),.bool (isd r.acc 6),.int .i64 r.fr,.int .i64 r.mn,.int .i64 r.mi,.int .i64 r.ti,.int .i64 r.un] 180 (0,0))):w.cell? ⟨b,2,none⟩=some (.bool (isd r.acc 0)):=by simp only[World.cell?,h];rfl
theorem c6y{w:World}{b:Nat}{r:Rd.a0Y}(h:w.heap[b]?=some (.cells #[.int .i64 r.pc,.int .i64 r.ev,.bool (isd r.acc 0),.bool (isd r.acc 1),.bool (isd r.acc 2),.bool (isd r.acc 3),.bool (isd r.acc 4),.bool (isd r.acc 5),.bool (isd r.acc 6),.int .i64 r.fr,.int .i64 r.mn,.int .i64 r.mi,.int .i64 r.ti,.int .i64 r.un] 180 (0,0))):w.cell? ⟨b,3,none⟩=some (.bool (isd r.acc 1)):=by simp only[World.cell?,h];rfl
theorem c6x{w:World}{b:Nat}{r:Rd.a0Y}(h:w.heap[b]?=some (.cells #[.int .i64 r.pc,.int .i64 r.ev,.bool (isd r.acc 0),.bool (isd r.acc 1),.bool (isd r.acc 2),.bool (isd r.acc 3),.bool (isd r.acc 4),.bool (isd r.acc 5),.bool (isd r.acc 6),.int .i64 r.fr,.int .i64 r.mn,.int .i64 r.mi,.int .i64 r.ti,.int .i64 r.un] 180 (0,0))):w.cell? ⟨b,4,none⟩=some (.bool (isd r.acc 2)):=by simp only[World.cell?,h];rfl
theorem c6w{w:World}{b:Nat}{r:Rd.a0Y}(h:w.heap[b]?=some (.cells #[.int .i64 r.pc,.int .i64 r.ev,.bool (isd r.acc 0),.bool (isd r.acc 1),.bool (isd r.acc 2),.bool (isd r.acc 3),.bool (isd r.acc 4),.bool (isd r.acc 5),.bool (isd r.acc 6),.int .i64 r.fr,.int .i64 r.mn,.int .i64 r.mi,.int .i64 r.ti,.int .i64 r.un] 180 (0,0))):w.cell? ⟨b,5,none⟩=some (.bool (isd r.acc 3)):=by simp only[World.cell?,h];rfl
theorem c6v{w:World}{b:Nat}{r:Rd.a0Y}(h:w.heap[b]?=some (.cells #[.int .i64 r.pc,.int .i64 r.ev,.bool (isd r.acc 0),.bool (isd r.acc 1),.bool (isd r.acc 2),.bool (isd r.acc 3),.bool (isd r.acc 4),.bool (isd r.acc 5),.bool (isd r.acc 6),.int .i64 r.fr,.int .i64 r.mn,.int .i64 r.mi,.int .i64 r.ti,.int .i64 r.un] 180 (0,0))):w.cell? ⟨b,6,none⟩=some (.bool (isd r.acc 4)):=by simp only[World.cell?,h];rfl
theorem c6u{w:World}{b:Nat}{r:Rd.a0Y}(h:w.heap[b]?=some (.cells #[.int .i64 r.pc,.int .i64 r.ev,.bool (isd r.acc 0),.bool (isd r.acc 1),.bool (isd r.acc 2),.bool (isd r.acc 3),.bool (isd r.acc 4),.bool (isd r.acc 5),.bool (isd r.acc 6),.int .i64 r.fr,.int .i64 r.mn,.int .i64 r.mi,.int .i64 r.ti,.int .i64 r.un] 180 (0,0))):w.cell? ⟨b,7,none⟩=some (.bool (isd r.acc 5)):=by simp only[World.cell?,h];rfl
theorem c6t{w:World}{b:Nat}{r:Rd.a0Y}(h:w.heap[b]?=some (.cells #[.int .i64 r.pc,.int .i64 r.ev,.bool (isd r.acc 0),.bool (isd r.acc 1),.bool (isd r.acc 2),.bool (isd r.acc 3),.bool (isd r.acc 4),.bool (isd r.acc 5),.bool (isd r.acc 6),.int .i64 r.fr,.int .i64 r.mn,.int .i64 r.mi,.int .i64 r.ti,.int .i64 r.un] 180 (0,0))):w.cell? ⟨b,8,none⟩=some (.bool (isd r.acc 6)):=by simp only[World.cell?,h];rfl
theorem c6s{w:World}{b:Nat}{r:Rd.a0Y}(h:w.heap[b]?=some (.cells #[.int .i64 r.pc,.int .i64 r.ev,.bool (isd r.acc 0),.bool (isd r.acc 1),.bool (isd r.acc 2),.bool (isd r.acc 3),.bool (isd r.acc 4),.bool (isd r.acc 5),.bool (isd r.acc 6),.int .i64 r.fr,.int .i64 r.mn,.int .i64 r.mi,.int .i64 r.ti,.int .i64 r.un] 180 (0,0))):w.cell? ⟨b,9,none⟩=some (.int .i64 r.fr):=by simp only[World.cell?,h];rfl
theorem c5p{w:World}{b:Nat}{r:Rd.a0Y}(h:w.heap[b]?=some (.cells #[.int .i64 r.pc,.int .i64 r.ev,.bool (isd r.acc 0),.bool (isd r.acc 1),.bool (isd r.acc 2),.bool (isd r.acc 3),.bool (isd r.acc 4),.bool (isd r.acc 5),.bool (isd r.acc 6),.int .i64 r.fr,.int .i64 r.mn,.int .i64 r.mi,.int .i64 r.ti,.int .i64 r.un] 180 (0,0))):w.cell? ⟨b,10,none⟩=some (.int .i64 r.mn):=by simp only[World.cell?,h];rfl
theorem c5o{w:World}{b:Nat}{r:Rd.a0Y}(h:w.heap[b]?=some (.cells #[.int .i64 r.pc,.int .i64 r.ev,.bool (isd r.acc 0),.bool (isd r.acc 1),.bool (isd r.acc 2),.bool (isd r.acc 3),.bool (isd r.acc 4),.bool (isd r.acc 5),.bool (isd r.acc 6),.int .i64 r.fr,.int .i64 r.mn,.int .i64 r.mi,.int .i64 r.ti,.int .i64 r.un] 180 (0,0))):w.cell? ⟨b,11,none⟩=some (.int .i64 r.mi):=by simp only[World.cell?,h];rfl
theorem c5n{w:World}{b:Nat}{r:Rd.a0Y}(h:w.heap[b]?=some (.cells #[.int .i64 r.pc,.int .i64 r.ev,.bool (isd r.acc 0),.bool (isd r.acc 1),.bool (isd r.acc 2),.bool (isd r.acc 3),.bool (isd r.acc 4),.bool (isd r.acc 5),.bool (isd r.acc 6),.int .i64 r.fr,.int .i64 r.mn,.int .i64 r.mi,.int .i64 r.ti,.int .i64 r.un] 180 (0,0))):w.cell? ⟨b,12,none⟩=some (.int .i64 r.ti):=by simp only[World.cell?,h];rfl
theorem c5m{w:World}{b:Nat}{r:Rd.a0Y}(h:w.heap[b]?=some (.cells #[.int .i64 r.pc,.int .i64 r.ev,.bool (isd r.acc 0),.bool (isd r.acc 1),.bool (isd r.acc 2),.bool (isd r.acc 3),.bool (isd r.acc 4),.bool (isd r.acc 5),.bool (isd r.acc 6),.int .i64 r.fr,.int .i64 r.mn,.int .i64 r.mi,.int .i64 r.ti,.int .i64 r.un] 180 (0,0))):w.cell? ⟨b,13,none⟩=some (.int .i64 r.un):=by simp only[World.cell?,h];rfl
theorem b8D{w:World}{d:Nat}{s:St}{rw_:Raw}{col:Nat->Option Col}(h:DSt w d s rw_ col)(ht:Tab w)(h10:10<=w.heap.size)(r:Rd.a0Y)(hf:Rd.a6s r):
  Calls Tryz.prog 102 #[.agg #[.int .i64 r.pc,.int .i64 r.ev,.bool (isd r.acc 0),.bool (isd r.acc 1),.bool (isd r.acc 2),.bool (isd r.acc 3),.bool (isd r.acc 4),.bool (isd r.acc 5),.bool (isd r.acc 6),.int .i64 r.fr,.int .i64 r.mn,.int .i64 r.mi,.int .i64 r.ti,.int .i64 r.un]] w fun e w'=>∃ v,e=.returned v/\a0l w d col (Desk.a0g s (.expand r)) v w':=by
 obtain⟨hX,hXQ,hsz,hXb⟩:=c0R w r
 have DY:=a0b (b7z r hf ((w.alloc (.cells #[.int .i64 r.pc,.int .i64 r.ev,.bool (isd r.acc 0),.bool (isd r.acc 1),.bool (isd r.acc 2),.bool (isd r.acc 3),.bool (isd r.acc 4),.bool (isd r.acc 5),.bool (isd r.acc 6),.int .i64 r.fr,.int .i64 r.mn,.int .i64 r.mi,.int .i64 r.ti,.int .i64 r.un] 180)).alloc a0f) (a3c ht hX h10) (by rw[hsz];omega))
 have HE:=a0b (a9G (s:=s) hf)
 have HO:=a0b (b5n (s:=s) hf)
 have HH:=a0b h
 have HX:=a0b (And.intro hX (And.intro hXQ hsz))
 have x0:=c6B hXb
 have x1:=c6A hXb
 have x2:=c6z hXb
 have x3:=c6y hXb
 have x4:=c6x hXb
 have x5:=c6w hXb
 have x6:=c6v hXb
 have x7:=c6u hXb
 have x8:=c6t hXb
 have x9:=c6s hXb
 have x10:=c5p hXb
 have x11:=c5o hXb
 have x12:=c5n hXb
 have x13:=c5m hXb
 unfold a1S at DY
 clear h hX hXQ hsz hXb hf ht
 go_enter Tryz.func102,Tryz.ntmps102
 go_upto_region 1 with fail
 change Code.wp _ _ _ _ ((w.alloc (.cells #[.int .i64 r.pc,.int .i64 r.ev,.bool (isd r.acc 0),.bool (isd r.acc 1),.bool (isd r.acc 2),.bool (isd r.acc 3),.bool (isd r.acc 4),.bool (isd r.acc 5),.bool (isd r.acc 6),.int .i64 r.fr,.int .i64 r.mn,.int .i64 r.mi,.int .i64 r.ti,.int .i64 r.un] 180)).alloc a0f)
 generalize ((w.alloc (.cells #[.int .i64 r.pc,.int .i64 r.ev,.bool (isd r.acc 0),.bool (isd r.acc 1),.bool (isd r.acc 2),.bool (isd r.acc 3),.bool (isd r.acc 4),.bool (isd r.acc 5),.bool (isd r.acc 6),.int .i64 r.fr,.int .i64 r.mn,.int .i64 r.mi,.int .i64 r.ti,.int .i64 r.un] 180)).alloc a0f)=X at *
 go_upto_region 2 with (first
  |(go_at_call 147;refine DY.out.mono ?_;rintro e w1 ⟨da,rfl,own,hb⟩))
 obtain⟨a1,cap,rfl⟩:=b1C own
 have BX:Hid (Below w.heap.size w w1):=HX.out.1.trans (hb.mono HX.out.1.size)
 have QX:Hid (Q7 w1 (w.heap.size+1)):=(Q7.of HX.out.2.1).later (hb.block _ (by rw[HX.out.2.2];omega))
 have OW:Hid (w1.ownsRow (w.heap.size+1+1) 3 1 (.slice a1 (a0U r).length cap) (a0U r).length ((a0U r).map (Value.int .i64))):=by have:=own;rw[HX.out.2.2] at this;exact this
 clear DY x0 x1 x2 x3 x4 x5 x6 x7 x8 x9 x10 x11 x12 x13 own hb HX
 by_cases he:Rd.a0L r=0
 ·have HD:=a0b (HO.out he)
  have hb1:(Rd.a0L r != 0)=false:=by simpa using he
  have AF:Hid (∀ a b c e f g i,a0l w d col (Desk.a0g s (.expand r)) (a0s 0 0 ((a0U r).length:Int) (.slice none 0 0) (.slice a1 (a0U r).length cap) (.slice none 0 0) (.slice none 0 0)) (a2w w1 (w.heap.size+1) a b c e f g i)):=fun a b c e f g i=>by rw[HD.out];exact HH.out.ansDays BX.out (by omega) OW.out _ a b c e f g i
  clear HE HO HD OW
  generalize (a0U r).length=nn at *
  generalize Rd.a0L r=er at *
  subst he
  obtain⟨q0,q1,q2,q3,q4,q5,q6,fq⟩:=QX.out
  go_wp2_with fail
  exact bodyPost_ret (v:=a0s 0 0 (nn:Int) (.slice none 0 0) (.slice a1 nn cap) (.slice none 0 0) (.slice none 0 0)) (by simp[results,Tryz.results102,go_sem,a0s,q0,q1,q2,q3,q4,q5,q6]) rfl ⟨_,rfl,AF.out _ _ _ _ _ _ _⟩
 ·have HD:=a0b (HE.out he)
  have hb1:(Rd.a0L r != 0)=true:=by simpa using he
  clear HE HO OW he
  generalize Rd.a0L r=er at *
  go_wp2_with fail
  refine (a0D er w1).mono ?_
  rintro e w2 ⟨rfl,hb2⟩
  have hq:=hb2.block (w.heap.size+1) (World.block_lt_of_cell? _ _ QX.out.q0)
  have HF:Hid (a0l w d col (Desk.a0g s (.expand r)) (a0s er 0 0 (.slice none 0 0) (.slice none 0 0) (.slice none 0 0) (.slice none 0 0)) (a2w w2 (w.heap.size+1) (.int .i64 er) (.int .i64 0) (.int .i64 0) (.slice none 0 0) (.slice none 0 0) (.slice none 0 0) (.slice none 0 0))):=by
   rw[HD.out];exact HH.out.said (BX.out.trans (hb2.mono BX.out.size)) (by omega) er 0 _ _ _ _ _ _ _
  obtain⟨q0,q1,q2,q3,q4,q5,q6,fq⟩:=QX.out.later hq
  simp only[a0s]
  go_wp2_with fail
  exact bodyPost_ret (v:=a0s er 0 0 (.slice none 0 0) (.slice none 0 0) (.slice none 0 0) (.slice none 0 0)) (by simp[results,Tryz.results102,go_sem,a0s,q0,q1,q2,q3,q4,q5,q6]) rfl ⟨_,rfl,HF.out⟩
theorem b2m{w:World}{d:Nat}{s:St}{rw_:Raw}{col:Nat->Option Col}(h:DSt w d s rw_ col)(ht:Tab w)(h10:10<=w.heap.size)(r:Rd.a0Y)(hf:Rd.a6s r):
  Calls Tryz.prog 64 #[.pointer (some ⟨d,0,none⟩),.iface 180 (.agg #[.int .i64 r.pc,.int .i64 r.ev,.bool (isd r.acc 0),.bool (isd r.acc 1),.bool (isd r.acc 2),.bool (isd r.acc 3),.bool (isd r.acc 4),.bool (isd r.acc 5),.bool (isd r.acc 6),.int .i64 r.fr,.int .i64 r.mn,.int .i64 r.mi,.int .i64 r.ti,.int .i64 r.un])] w fun e w'=>∃ v,e=.returned v/\a0l w d col (Desk.a0g s (.expand r)) v w':=by
 have hX:Below w.heap.size w ((w.alloc a0f).alloc (.cells #[.int .i64 r.pc,.int .i64 r.ev,.bool (isd r.acc 0),.bool (isd r.acc 1),.bool (isd r.acc 2),.bool (isd r.acc 3),.bool (isd r.acc 4),.bool (isd r.acc 5),.bool (isd r.acc 6),.int .i64 r.fr,.int .i64 r.mn,.int .i64 r.mi,.int .i64 r.ti,.int .i64 r.un] 180)):=((Below.refl _ _).alloc (Nat.le_refl _) _).alloc (by simp) _
 have hq:((w.alloc a0f).alloc (.cells #[.int .i64 r.pc,.int .i64 r.ev,.bool (isd r.acc 0),.bool (isd r.acc 1),.bool (isd r.acc 2),.bool (isd r.acc 3),.bool (isd r.acc 4),.bool (isd r.acc 5),.bool (isd r.acc 6),.int .i64 r.fr,.int .i64 r.mn,.int .i64 r.mi,.int .i64 r.ti,.int .i64 r.un] 180)).heap[w.heap.size]?=some a0f:=(Below.heap_alloc _ _ _ (by simp)).trans (a0p w a0f)
 have hs:w.heap.size<((w.alloc a0f).alloc (.cells #[.int .i64 r.pc,.int .i64 r.ev,.bool (isd r.acc 0),.bool (isd r.acc 1),.bool (isd r.acc 2),.bool (isd r.acc 3),.bool (isd r.acc 4),.bool (isd r.acc 5),.bool (isd r.acc 6),.int .i64 r.fr,.int .i64 r.mn,.int .i64 r.mi,.int .i64 r.ti,.int .i64 r.un] 180)).heap.size:=by simp;omega
 have EF:=a0b (b8D (w:=((w.alloc a0f).alloc (.cells #[.int .i64 r.pc,.int .i64 r.ev,.bool (isd r.acc 0),.bool (isd r.acc 1),.bool (isd r.acc 2),.bool (isd r.acc 3),.bool (isd r.acc 4),.bool (isd r.acc 5),.bool (isd r.acc 6),.int .i64 r.fr,.int .i64 r.mn,.int .i64 r.mi,.int .i64 r.ti,.int .i64 r.un] 180))) ⟨h.dk.later hX,h.of,h.wl,h.hl,h.inv⟩ (a3c ht hX h10) (Nat.le_trans h10 hX.size) r hf)
 have HX:=a0b (And.intro hX (And.intro (Q7.of hq) (And.intro (h.dk.none (Nat.le_refl _)) hs)))
 clear h hX hq hs
 unfold a0f at EF HX
 have noThing:=d0q 180 (by decide)
 have noBook:=d2o 180 (by decide)
 have noHold:=d2F 180 (by decide)
 have noWait:=d3H 180 (by decide)
 have noSeries:=d0K 180 (by decide)
 have noConfirm:=d0y 180 (by decide)
 have noCancel:=d1Q 180 (by decide)
 have noList:=d8g 180 (by decide)
 have noWaiting:=d2E 180 (by decide)
 have noPeak:=e3J 180 (by decide)
 have noFind:=e7l 180 (by decide)
 have yesExpand:∀ (xT:TypeId) (v:Value) (w:World),(Instr.typeAssert (.iface 180 v) xT 180 true).run Tryz.prog w=.ok (.tuple #[v,.bool true]) w:=by intro xT v w;simp[Instr.typeAssert,go_sem,Result.andThen,run_underlying Tryz.underlying180]
 go_enter Tryz.func64,Tryz.ntmps64
 go_wp2_with fail
 refine EF.out.mono ?_
 rintro e w2 ⟨v,rfl,ep⟩
 obtain⟨er,at_,nn,a1,a2,a3,a4,n1,n2,n3,n4,c1,c2,c3,c4,rfl,q7,hf⟩:=ep.up HX.out.1 (Nat.le_refl _) HX.out.2.2.2 HX.out.2.2.1 HX.out.2.1
 have HF:=a0b (hf (.int .i64 er) (.int .i64 at_) (.int .i64 nn) (.slice a1 n1 c1) (.slice a2 n2 c2) (.slice a3 n3 c3) (.slice a4 n4 c4))
 clear ep hf EF noThing noBook noHold noWait noSeries noConfirm noCancel noList noWaiting noPeak noFind yesExpand
 obtain⟨q0,q1,q2,q3,q4,q5,q6,fq⟩:=q7
 simp only[a0s]
 go_wp2_with fail
 exact bodyPost_ret (v:=a0s er at_ nn (.slice a1 n1 c1) (.slice a2 n2 c2) (.slice a3 n3 c3) (.slice a4 n4 c4)) (by simp[results,Tryz.results64,go_sem,a0s,q0,q1,q2,q3,q4,q5,q6]) rfl ⟨_,rfl,HF.out⟩
theorem c4d:∀ (L:List (Int × Int))(j:Nat)(u:Value),(L.flatMap spV)[j]?=some u->∃ (i:Nat)(h:i<L.length),(j=i*2/\u=.int .i64 L[i].1)\/(j=i*2+1/\u=.int .i64 L[i].2)
 |[],j,u,h=>by simp at h
 |p :: L,0,u,h=>by
  refine⟨0,by simp,.inl ⟨rfl,?_⟩⟩
  simp[spV] at h
  exact h.symm
 |p :: L,1,u,h=>by
  refine⟨0,by simp,.inr ⟨rfl,?_⟩⟩
  simp[spV] at h
  exact h.symm
 |p :: L,j+2,u,h=>by
  have h':(L.flatMap spV)[j]?=some u:=by simpa[spV] using h
  obtain⟨i,hi,e⟩:=c4d L j u h'
  refine⟨i+1,by simp;omega,?_⟩
  rcases e with ⟨e1,e2⟩|⟨e1,e2⟩
  ·exact .inl ⟨by omega,by simpa using e2⟩
  ·exact .inr ⟨by omega,by simpa using e2⟩
theorem b0S(L:List (Int × Int)):(L.flatMap spV).length=L.length*2:=by
 induction L with
 |nil=>rfl
 |cons p L ih=>simp[spV,ih];omega
theorem b8A(L:List (Int × Int)):∀ u∈L.flatMap spV,u.oneCell'=true:=by
 intro u hu
 obtain⟨p,_,hp⟩:=List.mem_flatMap.1 hu
 simp[spV] at hp
 rcases hp with rfl|rfl <;> rfl
theorem b4C(w:World)(B cap:Nat)(L:List (Int × Int))(hs:SL w B L)(hL:L.length<=100):
  Calls Tryz.prog 210 #[.slice (some ⟨B,0,none⟩) L.length cap] w fun e w'=>∃ v,e=.returned v/\w'.ownsRow w.heap.size 60 2 v L.length (L.flatMap spV)/\Below w.heap.size w w':=by
 obtain⟨i0,hi0,hz0,hz1,hz2⟩:=info_parts b6Q
 have q22:∀ (w:World) (a:Option Addr) (n c n' c':Nat),(binOp .eql 56 (.slice a n c) (.slice none n' c')).run Tryz.prog w=.ok (.bool a.isNone) w:=fun w a n c n' c'=>Lib.run_eql_slice_nil w _ _ a n c n' c' Tryz.underlying56
 have HS:=a0b hs
 clear hs
 go_enter Tryz.func210,Tryz.ntmps210
 go_wp2_with (at_builtin;refine wpList_append_own _ rfl _ _ 56 rfl w.heap.size 60 i0 _ 2 16 Tryz.underlying56 hi0 hz0 hz1 hz2 rfl (by decide) _ _ _ rfl (World.ownsRow_made w #[] 0 (Nat.le_refl _) (Nat.zero_le _) rfl) ⟨B,0,none⟩ L.length cap (L.flatMap spV) rfl ?qc1 ?qc2 ?qc3 ?qc4 ?qc5 ?qc6 ?_)
 case qc1=>exact b0S L
 case qc2 =>
  intro j u hj
  rw[Addr.add_lit]
  refine Lib.cell?_alloc_some _ ?_
  obtain⟨i,hi,⟨rfl,rfl⟩|⟨rfl,rfl⟩⟩:=c4d L j u hj
  ·have:=(HS.out i hi).1
   simpa using this
  ·have:=(HS.out i hi).2
   simpa using this
 case qc3=>exact b8A L
 case qc4=>unfold maxLen;omega
 case qc5=>omega
 case qc6=>simp
 intro v' w1 hown hgrow hnil
 go_wp2
 go_ret
 refine⟨v',rfl,by simpa using hown,?_⟩
 exact ((Below.refl _ w).alloc (Nat.le_refl _) _).grown hgrow (by simp) (by intro k hk;simp[Value.ownBlock] at hk;omega)
end Go.Proofs.YtfigmlfdnickmaaGreatDoor
