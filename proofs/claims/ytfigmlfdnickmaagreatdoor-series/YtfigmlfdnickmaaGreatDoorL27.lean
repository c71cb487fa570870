/-
  bookingslaw: step, plays, some at the lines that book and ask; Bookings.
-/
import Derived.Test.YtfigmlfdnickmaaGreatDoorL26
set_option maxRecDepth 100000
set_option maxHeartbeats 8000000
variable{cap:Nat}{a0:Option Go.Addr}{v:Go.Value}
namespace Go.Proofs.YtfigmlfdnickmaaGreatDoor
open Go.RowKit
def f9X(x:OpX):Prop:=g4K x/\(x.k=4\/(5<=x.k/\f9Y x.s))
section
variable {w0 w w':World}{B n:Nat}
theorem f7Y(h:LW w0 w B n)(x:OpX)(hx:f9X x)(hk:x.k<=6)(hn:n+64<=900000000):
  Calls Tryz.prog 41 #[.pointer (some ⟨B,0,none⟩),.agg #[.int .i64 x.k,.int .i64 x.a,.int .i64 x.y,.int .i64 x.m,.int .i64 x.d,.string x.s]] w fun e w'=>e=.returned (.bool true)/\LW w0 w' B (n+64):=by
 obtain⟨hok,hx⟩:=hx;have kW:Below w.heap.size w (w.alloc (opO x)):=(zr _ _).alloc (zq _) _;have HW:=a0b (h.later kW);have hq:=a0p w (opO x)
 have CL:Hid (∀ W,Below (w.alloc (opO x)).heap.size (w.alloc (opO x)) W->W.cell? ⟨w.heap.size,0,none⟩=some (.int .i64 x.k)/\W.cell? ⟨w.heap.size,1,none⟩=some (.int .i64 x.a)/\W.cell? ⟨w.heap.size,5,none⟩=some (.string x.s)):=fun W k=>by
  have hb:=(k.block _ (Array.getElem?_eq_some_iff.1 hq).1).trans hq;exact⟨d0h hb 0 rfl,d0h hb 1 rfl,d0h hb 5 rfl⟩
 obtain⟨c0,c1,c5⟩:=CL.out _ (zr _ _)
 have hkk:x.k=4\/x.k=5\/x.k=6:=by
  rcases hx with e|⟨e,_⟩
  ·exact .inl e
  ·omega
 have hF:x.k≠4->f9Y x.s:=fun e=>by
  rcases hx with e1|⟨_,e1⟩
  ·exact (e e1).elim
  ·exact e1
 clear kW hq hx h hk;obtain⟨k,a,y,m,d,s⟩:=x;obtain⟨ha1,ha2,hsz⟩:=hok;dsimp only at *;rcases hkk with rfl|rfl|rfl
 ·go_enter Tryz.func41,Tryz.ntmps41
  go_upto_region 1 with fail
  change Code.wp _ _ _ _ (w.alloc (opO ⟨4,a,y,m,d,s⟩));generalize w.alloc (opO ⟨4,a,y,m,d,s⟩)=W at *
  go_wp2_with (first|(go_at_call 40;refine (e0X HW.out).mono ?_;rintro e w1 ⟨rfl,h1⟩;have H1:=a0b h1;clear h1))
  go_ret;exact⟨rfl,H1.out.more (Nat.le_add_right n 64)⟩
 ·go_enter Tryz.func41,Tryz.ntmps41
  go_upto_region 1 with fail
  change Code.wp _ _ _ _ (w.alloc (opO ⟨5,a,y,m,d,s⟩));generalize w.alloc (opO ⟨5,a,y,m,d,s⟩)=W at *
  go_wp2_with (first|(go_at_call 54;refine (e2q HW.out ha1 ha2 (hF (by decide)) hn).mono ?_;rintro e w1 ⟨rfl,h1⟩;have H1:=a0b h1;clear h1))
  go_ret;exact⟨rfl,H1.out⟩
 ·have hf:=hF (by decide);have PL:=a0b (e3U s _ HW.out.env)
  have key:Hid (∀ e,PR s e->∃ t er at_,e=.returned (.tuple #[.string t,.int .i64 er,.int .i64 at_])/\((er=0/\f9Y t)\/(er != 0)=true)):=fun e he=>by
   rcases he with ⟨_,rfl⟩|⟨_,⟨p,hp,rfl⟩|⟨m,_,rfl⟩⟩
   ·exact⟨_,_,_,rfl,.inr rfl⟩
   ·exact⟨_,_,_,rfl,.inl ⟨rfl,f5R hf hp⟩⟩
   ·exact⟨_,_,_,rfl,.inr rfl⟩
  have HF:=a0b hf;clear hF hf
  go_enter Tryz.func41,Tryz.ntmps41
  go_upto_region 1 with fail
  change Code.wp _ _ _ _ (w.alloc (opO ⟨6,a,y,m,d,s⟩));generalize w.alloc (opO ⟨6,a,y,m,d,s⟩)=W at *
  go_upto_region 14 with (first|(go_at_call 55;refine PL.out.mono ?_;rintro e w1 ⟨hp,hb⟩;obtain⟨t,er,at_,rfl,hc⟩:=key.out e hp;have H1:=a0b (HW.out.later hb);have C1:=a0b (CL.out _ hb);have HC:=a0b hc;clear hp hb hc c0 c1 c5))
  obtain⟨c0,c1,c5⟩:=C1.out;rcases HC.out with ⟨rfl,ht⟩|he
  ·have HT:=a0b ht;clear ht
   go_wp2_with (first|(go_at_call 54;refine (e2q H1.out ha1 ha2 HT.out hn).mono ?_;rintro e w2 ⟨rfl,h2⟩;have H2:=a0b h2;clear h2))
   go_ret;exact⟨rfl,H2.out⟩
  ·go_wp2_with (first|(go_at_call 54;refine (e2q H1.out ha1 ha2 HF.out hn).mono ?_;rintro e w2 ⟨rfl,h2⟩;have H2:=a0b h2;clear h2))
   go_ret;exact⟨rfl,H2.out⟩
theorem f4f(he:Env w){b0:Nat}{os:List OpX}(ho:w.ownsRow b0 89 6 v os.length (os.flatMap opC))(hf:∀ x∈os,f9X x)(hl:os.length<=2000000):
  Calls Tryz.prog 15 #[v,.int .i64 4,.int .i64 6] w fun e w'=>e=.returned (.bool true)/\Below w.heap.size w w':=by
 have HS:=a0b (LW.start he);obtain⟨va,vc,rfl⟩:=c9y ho
 have HO:Hid (∀ W m k (hk:k<os.length),LW w W w.heap.size m->∃ b,va=some ⟨b,0,none⟩/\g2D W b (k*6) os[k]):=fun W m k hk hW=>by
  have kW:=hW.bl;have at_:∀ o u,(opC os[k])[o]?=some u->∃ g cap,Value.slice va os.length vc=.slice (some ⟨g,0,none⟩) os.length cap/\w.cell? ⟨g,k*6+o,none⟩=some u:=fun o u hu=>e4k ho ((g4h hk o (by have:=(List.getElem?_eq_some_iff.1 hu).1;simpa[opC] using this)).trans hu)
  obtain⟨g,cap,e,c0⟩:=at_ 0 _ rfl;simp only[Value.slice.injEq,true_and] at e;obtain⟨rfl,rfl⟩:=e
  have at':∀ o u,(opC os[k])[o]?=some u->w.cell? ⟨g,k*6+o,none⟩=some u:=fun o u hu=>by
   obtain⟨g',cap',e,c⟩:=at_ o u hu;simp only[Value.slice.injEq,Option.some.injEq,Addr.mk.injEq,and_true,true_and] at e;obtain⟨rfl,rfl⟩:=e;exact c
  exact⟨g,rfl,g2D.later ⟨c0,at' 1 _ rfl,at' 2 _ rfl,at' 3 _ rfl,at' 4 _ rfl,at' 5 _ rfl⟩ kW⟩
 have HF:=a0b hf;clear ho hf he
 go_enter Tryz.func15,Tryz.ntmps15
 go_upto_region 2 with fail
 change Code.wp _ _ _ _ (w.alloc zW);generalize w.alloc zW=W at *
 go_wp2_with (first|(go_at_call 40;refine (e0X HS.out).mono ?_;rintro e w1 ⟨rfl,h1⟩;have H1:=a0b h1;clear h1))
 generalize w.heap.size=B at *
 go_loopw [9,10,11] (fun v _ _ wr=>∃ k:Nat,k<=os.length/\v=.int .i64 k/\LW w wr B (k*64)) (fun v _ _ _=>os.length-(intOf v).toNat)
 case atStart=>exact⟨0,Nat.zero_le _,rfl,by simpa using H1.out⟩
 case round =>
  obtain⟨k,hk,rfl,hlw⟩:=hrel;have HK:=a0b hlw
  by_cases hlt:k<os.length
  ·have hlt':(k:Int)<(os.length:Int):=by omega
   obtain⟨b,rfl,o0,o1,o2,o3,o4,o5⟩:=HO.out wr _ k hlt hlw;have hx:=HF.out os[k] (zg hlt);generalize os[k]=x at *;have HX:=a0b hx
   have h4:¬ x.k<4:=by
    rcases hx.2 with e|e
    ·omega
    ·have:=e.1;omega
   clear hx hlw
   by_cases h6:x.k<=6
   ·have h6':¬ 6<x.k:=by omega
    go_wp2_with (first
     |(go_at_call 41;refine (f7Y HK.out x HX.out h6 (by omega)).mono ?_;rintro e w2 ⟨rfl,h2⟩;have H2:=a0b h2;clear h2)
     |(go_at_call 42;refine (H2.out.looks (by omega)).mono ?_;rintro e w3 ⟨rfl,h3⟩;have H3:=a0b h3;clear h3))
    exact⟨⟨k+1,by omega,by go_num,by rw[Nat.add_mul,Nat.one_mul];exact H3.out⟩,by simp[intOf];omega⟩
   ·have h6':6<x.k:=by omega
    go_wp2_with fail
    exact⟨⟨k+1,by omega,by go_num,HK.out.more (by omega)⟩,by simp[intOf];omega⟩
  ·have hlt':¬ (k:Int)<(os.length:Int):=by omega
   clear hlw
   go_wp2_with fail
   go_ret;exact⟨rfl,HK.out.bl⟩
def g3K(w:World)(len:Nat)(e:Ending)(w':World):Prop:=∃ (v:Value)(os:List OpX),e=.returned v/\w'.ownsRow w.heap.size 89 6 v os.length (os.flatMap opC)/\os.length<=len/\(∀ x∈os,f9X x)/\Below w.heap.size w w'
theorem e3G{w1 w2:World}{v':Value}{os:List OpX}{x:OpX}(ho:w1.ownsRow w.heap.size 89 6 v os.length (os.flatMap opC))(hb:Below w.heap.size w w1)(k:Off v.ownBlock.toList w1 w2)(ho':w2.ownsRow w.heap.size 89 6 v' (os.length+1) (os.flatMap opC++opC x))(hof:∀ y∈os,f9X y)(hx:f9X x):
  w2.ownsRow w.heap.size 89 6 v' (os++[x]).length ((os++[x]).flatMap opC)/\(∀ y∈os++[x],f9X y)/\Below w.heap.size w w2:=by
 refine⟨by simpa using ho',fun y hy=>?_,hb.trans (Below.of_off k hb.size fun b hb'=>(ho.lt b (Option.mem_toList.1 hb')).1)⟩;rcases List.mem_append.1 hy with hy|hy
 ·exact hof y hy
 ·rw[List.mem_singleton.1 hy];exact hx
theorem f8e{len g c:Nat}(hs:e2N w a0 len)(hl:len<=1900000)(hw:d9x w g e7g):
  Calls Tryz.prog 16 #[.slice a0 len cap,.slice (some ⟨g,0,none⟩) 9 c] w (g3K w len):=by
 obtain⟨i0,hi0,hz0,hz1,hz2⟩:=info_parts g3q;have HS:=a0b hs;have HW:=a0b hw;clear hs hw
 go_enter Tryz.func16,Tryz.ntmps16
 go_wp2_with fail
 go_loopw [5,6,7] (fun v i _ wr=>∃ (k:Nat) (os:List OpX),k<=len/\i=.int .i64 k/\wr.ownsRow w.heap.size 89 6 v os.length (os.flatMap opC)/\os.length<=k/\(∀ x∈os,f9X x)/\Below w.heap.size w wr) (fun _ i _ _=>len-(intOf i).toNat)
 case atStart=>exact⟨0,[],Nat.zero_le _,rfl,World.ownsRow_nil _ _ _ _,by simp,by simp,Below.refl _ _⟩
 case round =>
  obtain⟨k,os,hk,rfl,ho,hol,hof,hbl⟩:=hrel;obtain⟨va,vc,rfl⟩:=c9y ho;have HO:=a0b (zA ho (zA hof hbl));clear ho hof hbl
  by_cases hlt:k<len
  ·have hlt':(k:Int)<(len:Int):=by omega
   obtain⟨b,off,x,rfl,hop,hok⟩:=HS.out k hlt;have HP:=a0b (zA hop hok);have WA:=a0b (fun W (kW:Below w.heap.size w W)=>e4v x.s W hok.sz (c:=c) (HW.out.later kW) (by decide));obtain⟨o0,o1,o2,o3,o4,o5⟩:=hop.later HO.out.2.2;clear hop hok
   go_upto_region 6 with (first|(go_at_call 43;refine (WA.out _ HO.out.2.2).mono ?_;rintro e w1 ⟨bb,rfl,hbb,hb1⟩;have H1:=a0b (zA hbb hb1);clear hbb hb1 o0 o1 o2 o3 o4 o5))
   have B1:=a0b (a0j HO.out.2.2 H1.out.2 (zq _));obtain⟨o0,o1,o2,o3,o4,o5⟩:=HP.out.1.later B1.out;have OW:=a0b (a1g HO.out.1 H1.out.2)
   by_cases h4:x.k=4
   ·have h4':(x.k==4)=true:=by simp[h4]
    have FX:Hid (f9X x):=⟨HP.out.2,.inl h4⟩;clear h4
    go_wp2_with (first|(at_builtin;go_loud (refine f0o rfl _ _ 22 rfl 6 56 Tryz.underlying22 hi0 hz0 hz1 hz2 (by decide) rfl (by decide) OW.out (cs:=#[.int .i64 x.k,.int .i64 x.a,.int .i64 x.y,.int .i64 x.m,.int .i64 x.d,.string x.s]) rfl (by simp[Value.oneCell']) rfl rfl (by omega) B1.out.size ?_);intro g2 c2 w2 o2 k2 _))
    obtain⟨m1,m2,m3⟩:=e3G OW.out B1.out k2 o2 HO.out.2.1 FX.out;exact⟨⟨k+1,os++[x],by omega,by go_num,m1,by simp;omega,m2,m3⟩,by simp[intOf];omega⟩
   ·have h4':(x.k==4)=false:=by simp[h4]
    by_cases h5:5<=x.k
    ·cases bb
     ·go_wp2_with fail
      exact⟨⟨k+1,os,by omega,by go_num,OW.out,by omega,HO.out.2.1,B1.out⟩,by simp[intOf];omega⟩
     ·have FX:Hid (f9X x):=⟨HP.out.2,.inr ⟨h5,H1.out.1 rfl⟩⟩
      go_wp2_with (first|(at_builtin;go_loud (refine f0o rfl _ _ 22 rfl 6 56 Tryz.underlying22 hi0 hz0 hz1 hz2 (by decide) rfl (by decide) OW.out (cs:=#[.int .i64 x.k,.int .i64 x.a,.int .i64 x.y,.int .i64 x.m,.int .i64 x.d,.string x.s]) rfl (by simp[Value.oneCell']) rfl rfl (by omega) B1.out.size ?_);intro g2 c2 w2 o2 k2 _))
      obtain⟨m1,m2,m3⟩:=e3G OW.out B1.out k2 o2 HO.out.2.1 FX.out;exact⟨⟨k+1,os++[x],by omega,by go_num,m1,by simp;omega,m2,m3⟩,by simp[intOf];omega⟩
    ·have h5':¬ (5:Int)<=x.k:=h5
     go_wp2_with fail
     exact⟨⟨k+1,os,by omega,by go_num,OW.out,by omega,HO.out.2.1,B1.out⟩,by simp[intOf];omega⟩
  ·have hlt':¬ (k:Int)<(len:Int):=by omega
   go_wp2_with fail
   go_ret;exact⟨_,os,rfl,HO.out.1,by omega,HO.out.2.1,HO.out.2.2⟩
theorem e9y{len:Nat}(he:Env w)(hs:e2N w a0 len)(hl:len<=1900000):
  Calls Tryz.prog 6 #[.slice a0 len cap] w fun e w'=>e=.returned (.bool true)/\Below w.heap.size w w':=by
 have HE:=a0b he;have HS:=a0b hs;clear he hs
 go_enter Tryz.func6,Tryz.ntmps6
 have kW:∀ o,Below w.heap.size w (w.alloc o):=fun o=>(zr _ _).alloc (zq _) o
 have SF:Hid (∀ (ty:TypeId) c,Calls Tryz.prog 16 #[.slice a0 len cap,.slice (some ⟨w.heap.size,0,none⟩) 9 c] (w.alloc (.cells #[.string a3F,.string a9P,.string a6m,.string a5Q,.string a9a,.string b5h,.string b1c,.string a7l,.string a7M] ty)) (g3K (w.alloc (.cells #[.string a3F,.string a9P,.string a6m,.string a5Q,.string a9a,.string b5h,.string b1c,.string a7l,.string a7M] ty)) len)):=fun ty c =>
  f8e (fun i hi=>by
   obtain⟨b,off,x,e,h1,h2⟩:=HS.out i hi
   exact⟨b,off,x,e,h1.later (kW _),h2⟩) hl (fun j hj=>by
   have hh:=a0p w (.cells #[.string a3F,.string a9P,.string a6m,.string a5Q,.string a9a,.string b5h,.string b1c,.string a7l,.string a7M] ty);have hj':j<9:=hj;rcases (show j=0\/j=1\/j=2\/j=3\/j=4\/j=5\/j=6\/j=7\/j=8 by omega) with rfl|rfl|rfl|rfl|rfl|rfl|rfl|rfl|rfl
   all_goals exact d0h hh _ rfl)
 have KW:=a0b kW;clear kW
 go_wp2_with fail
 refine (SF.out _ _).mono ?_;rintro e w1 ⟨v,os,rfl,ho,hol,hof,hb⟩;have H1:=a0b (zA ho (zA hof (zA hb ((HE.out.later (KW.out _)).later hb))));clear ho hof hb
 go_wp2_with fail
 refine (f4f H1.out.2.2.2 H1.out.1 H1.out.2.1 (by omega)).mono ?_;rintro e w2 ⟨rfl,hb2⟩;have H2:=a0b (a0j (a0j (KW.out _) H1.out.2.2.1 (zq _)) hb2 (zq _));clear hb2
 go_wp2_with fail
 go_ret;exact⟨rfl,H2.out⟩
end
end Go.Proofs.YtfigmlfdnickmaaGreatDoor
