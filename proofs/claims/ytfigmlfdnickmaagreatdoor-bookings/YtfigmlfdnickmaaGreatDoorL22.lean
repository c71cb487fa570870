import Derived.Test.YtfigmlfdnickmaaGreatDoorL21
import Derived.Lib.LaidU8
import Derived.Shelf.Vars
set_option maxRecDepth 100000
set_option maxHeartbeats 8000000
variable{held:Bool}{b cap g n:Nat}{spare:Nat->Bool}{a0:Option Go.Addr}{v:Go.Value}{W:Go.World}
namespace Go.Proofs.YtfigmlfdnickmaaGreatDoor
open Go.RowKit
structure OpX where
 k:Int
 a:Int
 y:Int
 m:Int
 d:Int
 s:ByteArray
def opC(x:OpX):List Value:=[.int .i64 x.k,.int .i64 x.a,.int .i64 x.y,.int .i64 x.m,.int .i64 x.d,.string x.s]
structure g4K(x:OpX):Prop where
 a1:-9223372036854775808<=x.a
 a2:x.a<=9223372036854775807
 sz:x.s.size<=2000000
def g2D(w:World)(b o:Nat)(x:OpX):Prop:=w.cell? ⟨b,o,none⟩=some (.int .i64 x.k)/\w.cell? ⟨b,o+1,none⟩=some (.int .i64 x.a)/\w.cell? ⟨b,o+2,none⟩=some (.int .i64 x.y)/\w.cell? ⟨b,o+3,none⟩=some (.int .i64 x.m)/\w.cell? ⟨b,o+4,none⟩=some (.int .i64 x.d)/\w.cell? ⟨b,o+5,none⟩=some (.string x.s)
theorem g2D.later{w w':World}{o:Nat}{x:OpX}(h:g2D w b o x)(k:Below w.heap.size w w'):g2D w' b o x:=by
 obtain⟨h0,h1,h2,h3,h4,h5⟩:=h;exact⟨a0a k h0,a0a k h1,a0a k h2,a0a k h3,a0a k h4,a0a k h5⟩
theorem g4h{X:List OpX}{k:Nat}(hk:k<X.length)(o:Nat)(ho:o<6):(X.flatMap opC)[k*6+o]?=(opC X[k])[o]?:=by
 induction X generalizing k with
 |nil=>simp at hk
 |cons a r ih =>
  cases k with
  |zero=>rw[List.flatMap_cons,Nat.zero_mul,Nat.zero_add,List.getElem?_append_left (by simpa[opC] using ho)];rfl
  |succ k =>
   have:=ih (k:=k) (by simpa using hk);rw[List.flatMap_cons,List.getElem?_append_right (by simp[opC];omega)];simp only[opC,List.length_cons,List.length_nil,List.getElem_cons_succ] at this ⊢;rw[<- this]
   congr 1
   omega
def f9X(x:OpX):Prop:=g4K x/\(x.k=4\/(5<=x.k/\f9Y x.s))
section
variable {w0 w w':World}{B n:Nat}
theorem LW.env(h:LW w0 w B n):Env w:=by
 obtain⟨tg,D,K,v0,v1,r1,r2,r3,X1,X2,X3,h⟩:=h;exact h.ds.env
theorem LW.bl(h:LW w0 w B n):Below w0.heap.size w0 w:=by
 obtain⟨tg,D,K,v0,v1,r1,r2,r3,X1,X2,X3,h⟩:=h;exact h.bl
theorem LW.looks(h:LW w0 w B n)(hn:n<=900000000):Calls Tryz.prog 42 #[.pointer (some ⟨B,2,none⟩)] w fun e w'=>e=.returned (.bool true)/\LW w0 w' B n:=by
 have h':=h;obtain⟨tg,D,K,v0,v1,r1,r2,r3,X1,X2,X3,h⟩:=h;refine (f5k h.bk (by have:=h.len;omega)).mono ?_;rintro e w1 ⟨rfl,hb⟩;exact⟨rfl,h'.later hb⟩
def zW:Obj:=.cells #[.slice none 0 0,.slice none 0 0,.slice none 0 0,.slice none 0 0,.slice none 0 0] 86
theorem LW.start(he:Env w):LW w (w.alloc zW) w.heap.size 0:=by
 have hb:Below w.heap.size w (w.alloc zW):=(zr _ _).alloc (zq _) _;have hs:(w.alloc zW).heap.size=w.heap.size+1:=by simp
 have h10:=he.size;have row:∀ {P:Int->List Value}{t:TypeId},e7E P t [] (w.alloc zW) (.slice none 0 0) []:=⟨World.ownsRow_nil _ _ _ _,by simp,by simp⟩;have bb:∀ b∈bkB w.heap.size (.slice none 0 0) (.slice none 0 0) (.slice none 0 0),b=w.heap.size:=fun b hb=>by simpa[bkB,Value.ownBlock] using hb
 refine⟨fun b=>if b=w.heap.size then .bk else .no,[],[],.slice none 0 0,.slice none 0 0,.slice none 0 0,.slice none 0 0,.slice none 0 0,[],[],[],⟨⟨fun i k hk=>by simp at hk,he.later hb,fun b hb=>?_,fun b hb=>if_neg (by omega)⟩,⟨a0p w _,⟨row,row,row,by simp⟩,by simp⟩,by simp,World.ownsRow_nil _ _ _ _,World.ownsRow_nil _ _ _ _,fun b hb=>if_pos (bb b hb),by simp,fun b hb=>(by cases hb),fun b hb=>(by cases hb),by simp,hb,fun b hb=>?_,h10⟩⟩
 ·by_cases e:b=w.heap.size
  ·omega
  ·exact (hb (if_neg e)).elim
 ·by_cases e:b=w.heap.size
  ·omega
  ·exact (hb (if_neg e)).elim
def opO(x:OpX):Obj:=.cells #[.int .i64 x.k,.int .i64 x.a,.int .i64 x.y,.int .i64 x.m,.int .i64 x.d,.string x.s] 89
theorem f7Y(h:LW w0 w B n)(x:OpX)(hx:f9X x)(hk:x.k<=6)(hn:n+64<=900000000):
  Calls Tryz.prog 41 #[.pointer (some ⟨B,0,none⟩),.agg #[.int .i64 x.k,.int .i64 x.a,.int .i64 x.y,.int .i64 x.m,.int .i64 x.d,.string x.s]] w fun e w'=>e=.returned (.bool true)/\LW w0 w' B (n+64):=by
 obtain⟨hok,hx⟩:=hx;have kW:Below w.heap.size w (w.alloc (opO x)):=(zr _ _).alloc (zq _) _;have HW:=a0b (h.later kW);have hq:=a0p w (opO x)
 have CL:Hid (∀ W,Below (w.alloc (opO x)).heap.size (w.alloc (opO x)) W->W.cell? ⟨w.heap.size,0,none⟩=some (.int .i64 x.k)/\W.cell? ⟨w.heap.size,1,none⟩=some (.int .i64 x.a)/\W.cell? ⟨w.heap.size,5,none⟩=some (.string x.s)):=fun W k=>by
  have hb:=(k.block _ (Array.getElem?_eq_some_iff.1 hq).1).trans hq;exact⟨d0h hb 0 rfl,d0h hb 1 rfl,d0h hb 5 rfl⟩
 obtain⟨c0,c1,c5⟩:=CL.out _ (zr _ _)
 have hkk:x.k=4\/x.k=5\/x.k=6:=by
  rcases hx with e|⟨e,_⟩
  ·exact .inl e
  ·omega
 have hF:x.k≠4->f9Y x.s:=fun e=>by
  rcases hx with e1|⟨_,e1⟩
  ·exact (e e1).elim
  ·exact e1
 clear kW hq hx h hk;obtain⟨k,a,y,m,d,s⟩:=x;obtain⟨ha1,ha2,hsz⟩:=hok;dsimp only at *;rcases hkk with rfl|rfl|rfl
 ·go_enter Tryz.func41,Tryz.ntmps41
  go_upto_region 1 with fail
  change Code.wp _ _ _ _ (w.alloc (opO ⟨4,a,y,m,d,s⟩));generalize w.alloc (opO ⟨4,a,y,m,d,s⟩)=W at *
  go_wp2_with (first|(go_at_call 40;refine (e0X HW.out).mono ?_;rintro e w1 ⟨rfl,h1⟩;have H1:=a0b h1;clear h1))
  go_ret;exact⟨rfl,H1.out.more (Nat.le_add_right n 64)⟩
 ·go_enter Tryz.func41,Tryz.ntmps41
  go_upto_region 1 with fail
  change Code.wp _ _ _ _ (w.alloc (opO ⟨5,a,y,m,d,s⟩));generalize w.alloc (opO ⟨5,a,y,m,d,s⟩)=W at *
  go_wp2_with (first|(go_at_call 54;refine (e2q HW.out ha1 ha2 (hF (by decide)) hn).mono ?_;rintro e w1 ⟨rfl,h1⟩;have H1:=a0b h1;clear h1))
  go_ret;exact⟨rfl,H1.out⟩
 ·have hf:=hF (by decide);have PL:=a0b (e3U s _ HW.out.env)
  have key:Hid (∀ e,PR s e->∃ t er at_,e=.returned (.tuple #[.string t,.int .i64 er,.int .i64 at_])/\((er=0/\f9Y t)\/(er != 0)=true)):=fun e he=>by
   rcases he with ⟨_,rfl⟩|⟨_,⟨p,hp,rfl⟩|⟨m,_,rfl⟩⟩
   ·exact⟨_,_,_,rfl,.inr rfl⟩
   ·exact⟨_,_,_,rfl,.inl ⟨rfl,f5R hf hp⟩⟩
   ·exact⟨_,_,_,rfl,.inr rfl⟩
  have HF:=a0b hf;clear hF hf
  go_enter Tryz.func41,Tryz.ntmps41
  go_upto_region 1 with fail
  change Code.wp _ _ _ _ (w.alloc (opO ⟨6,a,y,m,d,s⟩));generalize w.alloc (opO ⟨6,a,y,m,d,s⟩)=W at *
  go_upto_region 14 with (first|(go_at_call 55;refine PL.out.mono ?_;rintro e w1 ⟨hp,hb⟩;obtain⟨t,er,at_,rfl,hc⟩:=key.out e hp;have H1:=a0b (HW.out.later hb);have C1:=a0b (CL.out _ hb);have HC:=a0b hc;clear hp hb hc c0 c1 c5))
  obtain⟨c0,c1,c5⟩:=C1.out;rcases HC.out with ⟨rfl,ht⟩|he
  ·have HT:=a0b ht;clear ht
   go_wp2_with (first|(go_at_call 54;refine (e2q H1.out ha1 ha2 HT.out hn).mono ?_;rintro e w2 ⟨rfl,h2⟩;have H2:=a0b h2;clear h2))
   go_ret;exact⟨rfl,H2.out⟩
  ·go_wp2_with (first|(go_at_call 54;refine (e2q H1.out ha1 ha2 HF.out hn).mono ?_;rintro e w2 ⟨rfl,h2⟩;have H2:=a0b h2;clear h2))
   go_ret;exact⟨rfl,H2.out⟩
theorem f4f(he:Env w){b0:Nat}{os:List OpX}(ho:w.ownsRow b0 89 6 v os.length (os.flatMap opC))(hf:∀ x∈os,f9X x)(hl:os.length<=2000000):
  Calls Tryz.prog 15 #[v,.int .i64 4,.int .i64 6] w fun e w'=>e=.returned (.bool true)/\Below w.heap.size w w':=by
 have HS:=a0b (LW.start he);obtain⟨va,vc,rfl⟩:=c9y ho
 have HO:Hid (∀ W m k (hk:k<os.length),LW w W w.heap.size m->∃ b,va=some ⟨b,0,none⟩/\g2D W b (k*6) os[k]):=fun W m k hk hW=>by
  have kW:=hW.bl;have at_:∀ o u,(opC os[k])[o]?=some u->∃ g cap,Value.slice va os.length vc=.slice (some ⟨g,0,none⟩) os.length cap/\w.cell? ⟨g,k*6+o,none⟩=some u:=fun o u hu=>e4k ho ((g4h hk o (by have:=(List.getElem?_eq_some_iff.1 hu).1;simpa[opC] using this)).trans hu)
  obtain⟨g,cap,e,c0⟩:=at_ 0 _ rfl;simp only[Value.slice.injEq,true_and] at e;obtain⟨rfl,rfl⟩:=e
  have at':∀ o u,(opC os[k])[o]?=some u->w.cell? ⟨g,k*6+o,none⟩=some u:=fun o u hu=>by
   obtain⟨g',cap',e,c⟩:=at_ o u hu;simp only[Value.slice.injEq,Option.some.injEq,Addr.mk.injEq,and_true,true_and] at e;obtain⟨rfl,rfl⟩:=e;exact c
  exact⟨g,rfl,g2D.later ⟨c0,at' 1 _ rfl,at' 2 _ rfl,at' 3 _ rfl,at' 4 _ rfl,at' 5 _ rfl⟩ kW⟩
 have HF:=a0b hf;clear ho hf he
 go_enter Tryz.func15,Tryz.ntmps15
 go_upto_region 2 with fail
 change Code.wp _ _ _ _ (w.alloc zW);generalize w.alloc zW=W at *
 go_wp2_with (first|(go_at_call 40;refine (e0X HS.out).mono ?_;rintro e w1 ⟨rfl,h1⟩;have H1:=a0b h1;clear h1))
 generalize w.heap.size=B at *
 go_loopw [9,10,11] (fun v _ _ wr=>∃ k:Nat,k<=os.length/\v=.int .i64 k/\LW w wr B (k*64)) (fun v _ _ _=>os.length-(intOf v).toNat)
 case atStart=>exact⟨0,Nat.zero_le _,rfl,by simpa using H1.out⟩
 case round =>
  obtain⟨k,hk,rfl,hlw⟩:=hrel;have HK:=a0b hlw
  by_cases hlt:k<os.length
  ·have hlt':(k:Int)<(os.length:Int):=by omega
   obtain⟨b,rfl,o0,o1,o2,o3,o4,o5⟩:=HO.out wr _ k hlt hlw;have hx:=HF.out os[k] (zg hlt);generalize os[k]=x at *;have HX:=a0b hx
   have h4:¬ x.k<4:=by
    rcases hx.2 with e|e
    ·omega
    ·have:=e.1;omega
   clear hx hlw
   by_cases h6:x.k<=6
   ·have h6':¬ 6<x.k:=by omega
    go_wp2_with (first
     |(go_at_call 41;refine (f7Y HK.out x HX.out h6 (by omega)).mono ?_;rintro e w2 ⟨rfl,h2⟩;have H2:=a0b h2;clear h2)
     |(go_at_call 42;refine (H2.out.looks (by omega)).mono ?_;rintro e w3 ⟨rfl,h3⟩;have H3:=a0b h3;clear h3))
    exact⟨⟨k+1,by omega,by go_num,by rw[Nat.add_mul,Nat.one_mul];exact H3.out⟩,by simp[intOf];omega⟩
   ·have h6':6<x.k:=by omega
    go_wp2_with fail
    exact⟨⟨k+1,by omega,by go_num,HK.out.more (by omega)⟩,by simp[intOf];omega⟩
  ·have hlt':¬ (k:Int)<(os.length:Int):=by omega
   clear hlw
   go_wp2_with fail
   go_ret;exact⟨rfl,HK.out.bl⟩
def e2N(w:World)(a0:Option Addr)(len:Nat):Prop:=∀ i,i<len->∃ b off x,a0=some ⟨b,off,none⟩/\g2D w b (off+i*6) x/\g4K x
theorem g3q:(Tryz.prog.info? 89).map (fun i=>(i.zero,i.size,i.bytes))=some (some (.agg #[.int .i64 0,.int .i64 0,.int .i64 0,.int .i64 0,.int .i64 0,.string ⟨#[]⟩]),6,56):=by kernel_rfl
def g3K(w:World)(len:Nat)(e:Ending)(w':World):Prop:=∃ (v:Value)(os:List OpX),e=.returned v/\w'.ownsRow w.heap.size 89 6 v os.length (os.flatMap opC)/\os.length<=len/\(∀ x∈os,f9X x)/\Below w.heap.size w w'
theorem e3G{w1 w2:World}{v':Value}{os:List OpX}{x:OpX}(ho:w1.ownsRow w.heap.size 89 6 v os.length (os.flatMap opC))(hb:Below w.heap.size w w1)(k:Off v.ownBlock.toList w1 w2)(ho':w2.ownsRow w.heap.size 89 6 v' (os.length+1) (os.flatMap opC++opC x))(hof:∀ y∈os,f9X y)(hx:f9X x):
  w2.ownsRow w.heap.size 89 6 v' (os++[x]).length ((os++[x]).flatMap opC)/\(∀ y∈os++[x],f9X y)/\Below w.heap.size w w2:=by
 refine⟨by simpa using ho',fun y hy=>?_,hb.trans (Below.of_off k hb.size fun b hb'=>(ho.lt b (Option.mem_toList.1 hb')).1)⟩;rcases List.mem_append.1 hy with hy|hy
 ·exact hof y hy
 ·rw[List.mem_singleton.1 hy];exact hx
theorem f8e{len c:Nat}(hs:e2N w a0 len)(hl:len<=1900000)(hw:d9x w g e7g):
  Calls Tryz.prog 16 #[.slice a0 len cap,.slice (some ⟨g,0,none⟩) 7 c] w (g3K w len):=by
 obtain⟨i0,hi0,hz0,hz1,hz2⟩:=info_parts g3q;have HS:=a0b hs;have HW:=a0b hw;clear hs hw
 go_enter Tryz.func16,Tryz.ntmps16
 go_wp2_with fail
 go_loopw [5,6,7] (fun v i _ wr=>∃ (k:Nat) (os:List OpX),k<=len/\i=.int .i64 k/\wr.ownsRow w.heap.size 89 6 v os.length (os.flatMap opC)/\os.length<=k/\(∀ x∈os,f9X x)/\Below w.heap.size w wr) (fun _ i _ _=>len-(intOf i).toNat)
 case atStart=>exact⟨0,[],Nat.zero_le _,rfl,World.ownsRow_nil _ _ _ _,by simp,by simp,Below.refl _ _⟩
 case round =>
  obtain⟨k,os,hk,rfl,ho,hol,hof,hbl⟩:=hrel;obtain⟨va,vc,rfl⟩:=c9y ho;have HO:=a0b (zA ho (zA hof hbl));clear ho hof hbl
  by_cases hlt:k<len
  ·have hlt':(k:Int)<(len:Int):=by omega
   obtain⟨b,off,x,rfl,hop,hok⟩:=HS.out k hlt;have HP:=a0b (zA hop hok);have WA:=a0b (fun W (kW:Below w.heap.size w W)=>e4v x.s W hok.sz (c:=c) (HW.out.later kW) (by decide));obtain⟨o0,o1,o2,o3,o4,o5⟩:=hop.later HO.out.2.2;clear hop hok
   go_upto_region 6 with (first|(go_at_call 43;refine (WA.out _ HO.out.2.2).mono ?_;rintro e w1 ⟨bb,rfl,hbb,hb1⟩;have H1:=a0b (zA hbb hb1);clear hbb hb1 o0 o1 o2 o3 o4 o5))
   have B1:=a0b (a0j HO.out.2.2 H1.out.2 (zq _));obtain⟨o0,o1,o2,o3,o4,o5⟩:=HP.out.1.later B1.out;have OW:=a0b (a1g HO.out.1 H1.out.2)
   by_cases h4:x.k=4
   ·have h4':(x.k==4)=true:=by simp[h4]
    have FX:Hid (f9X x):=⟨HP.out.2,.inl h4⟩;clear h4
    go_wp2_with (first|(at_builtin;go_loud (refine f0o rfl _ _ 22 rfl 6 56 Tryz.underlying22 hi0 hz0 hz1 hz2 (by decide) rfl (by decide) OW.out (cs:=#[.int .i64 x.k,.int .i64 x.a,.int .i64 x.y,.int .i64 x.m,.int .i64 x.d,.string x.s]) rfl (by simp[Value.oneCell']) rfl rfl (by omega) B1.out.size ?_);intro g2 c2 w2 o2 k2 _))
    obtain⟨m1,m2,m3⟩:=e3G OW.out B1.out k2 o2 HO.out.2.1 FX.out;exact⟨⟨k+1,os++[x],by omega,by go_num,m1,by simp;omega,m2,m3⟩,by simp[intOf];omega⟩
   ·have h4':(x.k==4)=false:=by simp[h4]
    by_cases h5:5<=x.k
    ·cases bb
     ·go_wp2_with fail
      exact⟨⟨k+1,os,by omega,by go_num,OW.out,by omega,HO.out.2.1,B1.out⟩,by simp[intOf];omega⟩
     ·have FX:Hid (f9X x):=⟨HP.out.2,.inr ⟨h5,H1.out.1 rfl⟩⟩
      go_wp2_with (first|(at_builtin;go_loud (refine f0o rfl _ _ 22 rfl 6 56 Tryz.underlying22 hi0 hz0 hz1 hz2 (by decide) rfl (by decide) OW.out (cs:=#[.int .i64 x.k,.int .i64 x.a,.int .i64 x.y,.int .i64 x.m,.int .i64 x.d,.string x.s]) rfl (by simp[Value.oneCell']) rfl rfl (by omega) B1.out.size ?_);intro g2 c2 w2 o2 k2 _))
      obtain⟨m1,m2,m3⟩:=e3G OW.out B1.out k2 o2 HO.out.2.1 FX.out;exact⟨⟨k+1,os++[x],by omega,by go_num,m1,by simp;omega,m2,m3⟩,by simp[intOf];omega⟩
    ·have h5':¬ (5:Int)<=x.k:=h5
     go_wp2_with fail
     exact⟨⟨k+1,os,by omega,by go_num,OW.out,by omega,HO.out.2.1,B1.out⟩,by simp[intOf];omega⟩
  ·have hlt':¬ (k:Int)<(len:Int):=by omega
   go_wp2_with fail
   go_ret;exact⟨_,os,rfl,HO.out.1,by omega,HO.out.2.1,HO.out.2.2⟩
theorem e5r{len:Nat}(he:Env w)(hs:e2N w a0 len)(hl:len<=1900000):
  Calls Tryz.prog 4 #[.slice a0 len cap] w fun e w'=>e=.returned (.bool true)/\Below w.heap.size w w':=by
 have HE:=a0b he;have HS:=a0b hs;clear he hs
 go_enter Tryz.func4,Tryz.ntmps4
 have kW:∀ o,Below w.heap.size w (w.alloc o):=fun o=>(zr _ _).alloc (zq _) o
 have SF:Hid (∀ (ty:TypeId) c,Calls Tryz.prog 16 #[.slice a0 len cap,.slice (some ⟨w.heap.size,0,none⟩) 7 c] (w.alloc (.cells #[.string a3F,.string a9P,.string a6m,.string a5Q,.string a9a,.string b5h,.string b1c] ty)) (g3K (w.alloc (.cells #[.string a3F,.string a9P,.string a6m,.string a5Q,.string a9a,.string b5h,.string b1c] ty)) len)):=fun ty c =>
  f8e (fun i hi=>by
   obtain⟨b,off,x,e,h1,h2⟩:=HS.out i hi
   exact⟨b,off,x,e,h1.later (kW _),h2⟩) hl (fun j hj=>by
   have hh:=a0p w (.cells #[.string a3F,.string a9P,.string a6m,.string a5Q,.string a9a,.string b5h,.string b1c] ty);have hj':j<7:=hj;rcases (show j=0\/j=1\/j=2\/j=3\/j=4\/j=5\/j=6 by omega) with rfl|rfl|rfl|rfl|rfl|rfl|rfl
   all_goals exact d0h hh _ rfl)
 have KW:=a0b kW;clear kW
 go_wp2_with fail
 refine (SF.out _ _).mono ?_;rintro e w1 ⟨v,os,rfl,ho,hol,hof,hb⟩;have H1:=a0b (zA ho (zA hof (zA hb ((HE.out.later (KW.out _)).later hb))));clear ho hof hb
 go_wp2_with fail
 refine (f4f H1.out.2.2.2 H1.out.1 H1.out.2.1 (by omega)).mono ?_;rintro e w2 ⟨rfl,hb2⟩;have H2:=a0b (a0j (a0j (KW.out _) H1.out.2.2.1 (zq _)) hb2 (zq _));clear hb2
 go_wp2_with fail
 go_ret;exact⟨rfl,H2.out⟩
end
end Go.Proofs.YtfigmlfdnickmaaGreatDoor
namespace Go.Proofs.YtfigmlfdnickmaaGreatDoor.uptoLaw
open Go.ChangeShapes Go.WideShapes Go.ChangeAt Go.RowKit
theorem f9G{H:Type}(d:DataW H):1<=Rows.uptoBulk d:=by
 cases d with
 |lit l=>cases l <;> simp[Rows.uptoBulk]
 |_=>simp[Rows.uptoBulk]
theorem f0k{H:Type}:∀ l:List (DataW H),l.length<=Rows.uptoBulkAll l
 |[]=>zN _
 |d :: r=>by
  have:=f0k r;have:=f9G d;simp only[Rows.uptoBulkAll,List.length_cons];omega
theorem f0h{H:Type}{d:DataW H}:∀ {l:List (DataW H)},d∈l->Rows.uptoBulk d<=Rows.uptoBulkAll l
 |a :: r,h=>by
  simp only[Rows.uptoBulkAll];rcases List.mem_cons.1 h with rfl|h
  ·omega
  ·have:=f0h h;omega
theorem g2Z{H:Type}{enc:TypeId × Value->H}{base:Nat}{off:Nat}{cs:List Value}{x:DataW H × List MemPlace}(k:Nat)
  (hc:W.cells? base (Addr.add ⟨b,off,none⟩ (k*6)) 6=some cs) (h:DataW.trod enc Tryz.prog W base spare held n 89 cs=some x):∃ o:OpX,g2D W b (off+k*6) o/\-9223372036854775808<=o.a/\o.a<=9223372036854775807/\o.s.size<=Rows.uptoBulk x.1:=by
 obtain⟨xs,n',_,hx,hlen,hxl,hf⟩:=DataW.trod_struct Tryz.underlying89 h;rw[datesLaw.e7q] at hlen;obtain⟨c0,c1,c2,c3,c4,c5,rfl⟩:=datesLaw.six hlen;obtain⟨x0,x1,x2,x3,x4,x5,rfl⟩:=datesLaw.six (show xs.length=6 from hxl);have f0:=hf 0 _ rfl;have f1:=hf 1 _ rfl;have f2:=hf 2 _ rfl;have f3:=hf 3 _ rfl;have f4:=hf 4 _ rfl;have f5:=hf 5 _ rfl;simp only[List.getElem_toArray,List.getElem_cons_zero,List.getElem_cons_succ,datesLaw.c3D,datesLaw.b7n,List.drop,List.take,List.getElem?_cons_zero,List.getElem?_cons_succ] at f0 f1 f2 f3 f4 f5;obtain⟨i0,e0,_,_⟩:=DataW.trod_int Tryz.underlying3 f0;obtain⟨i1,e1,_,w1⟩:=DataW.trod_int Tryz.underlying3 f1;obtain⟨i2,e2,_,_⟩:=DataW.trod_int Tryz.underlying3 f2;obtain⟨i3,e3,_,_⟩:=DataW.trod_int Tryz.underlying3 f3;obtain⟨i4,e4,_,_⟩:=DataW.trod_int Tryz.underlying3 f4;obtain⟨i5,e5,d5,_⟩:=DataW.trod_string Tryz.underlying9 f5;simp only[List.cons.injEq,and_true] at e0 e1 e2 e3 e4 e5;subst e0 e1 e2 e3 e4 e5;obtain⟨_,_,hcs⟩:=World.cells?_some hc;have g0:=hcs 0 (by decide);have g1:=hcs 1 (by decide);have g2:=hcs 2 (by decide);have g3:=hcs 3 (by decide);have g4:=hcs 4 (by decide);have g5:=hcs 5 (by decide);have bd:=bounds_i64 w1;have ad:∀ j,Addr.add (Addr.add ⟨b,off,none⟩ (k*6)) j=⟨b,off+k*6+j,none⟩:=fun j=>by rw[Deep.add_add,Addr.add];simp[Nat.add_assoc]
 simp only[ad,List.getElem?_cons_zero,List.getElem?_cons_succ] at g0 g1 g2 g3 g4 g5;refine⟨⟨i0,i1,i2,i3,i4,i5⟩,⟨g0,g1,g2,g3,g4,g5⟩,bd.1,bd.2,?_⟩;have hz:=Txt.a1l i5;rw[hx,d5];simp only[List.map,Rows.uptoBulk,Rows.uptoBulkAll];omega
theorem script{H:Type}{enc:TypeId × Value->H}{base:Nat}{len0 cap0:Nat}{d:DataW H}{ps:List MemPlace}(h:DataW.Trod enc Tryz.prog W base spare held 22 (.slice a0 len0 cap0) d ps)(hb:Rows.uptoBulk d<=1048576):e2N W a0 len0/\len0<=1900000:=by
 obtain⟨fuel,hf⟩:=h;rcases Deep.open_slice Tryz.underlying22 hf with ⟨hcs,_⟩|⟨a,l,c,m,n,D,Pl,hcs,_,hl,hm,hmd,hx,hel⟩
 ·simp[Value.cells] at hcs;obtain⟨rfl,rfl,rfl⟩:=hcs;exact⟨fun i hi=>by omega,by omega⟩
 ·simp[Value.cells] at hcs;obtain⟨rfl,rfl,rfl⟩:=hcs;have hd:d=.slice ((List.range len0).map D) ((List.range (m-len0)).map fun j=>D (len0+j)):=congrArg Prod.fst hx;rw[hd] at hb;simp only[Rows.uptoBulk] at hb;have h1:=f0k ((List.range len0).map D);rw[List.length_map,List.length_range] at h1;refine⟨fun i hi=>?_,by omega⟩;have hlm:len0<=m:=by rw[hmd];split <;> omega
  obtain⟨b,off,spot⟩:=a;obtain⟨cs,hc,ht⟩:=hel i (by omega)
  have hspot:spot=none:=by
   obtain⟨cs,hc,_⟩:=hel 0 (by omega);obtain⟨_,hn,hcc⟩:=World.cells?_some hc;rw[datesLaw.e7q] at hn hcc;obtain⟨c0,c1,c2,c3,c4,c5,rfl⟩:=datesLaw.six hn;have g:=hcc 0 (by decide)
   simpa[Addr.add] using World.cell?_spot g
  subst hspot;rw[datesLaw.e7q] at hc;obtain⟨o,o1,o2,o3,o4⟩:=g2Z i hc ht;have h2:=f0h (d:=D i) (l:=(List.range len0).map D) (List.mem_map.2 ⟨i,List.mem_range.2 hi,rfl⟩);exact⟨b,off,o,rfl,o1,o2,o3,by simp only at o4;omega⟩
end Go.Proofs.YtfigmlfdnickmaaGreatDoor.uptoLaw
namespace Go.Proofs.YtfigmlfdnickmaaGreatDoor.EnvLaid
open Go.ChangeShapes Go.WideShapes Go.ChangeAt Go.RowKit
theorem b2G{P:Program}{name:String}{k:IntKind}{zs:List Int}{t e:TypeId}
  (hg:P.globalNamed name=some g) (hty:(P.globals[g]?).map (·.type)=some t) (ht:P.underlying t=some (.array n e)) (he:P.underlying e=some (.int k)) (hce:P.cellsOf e=1) (hct:P.cellsOf t=n)
  (h:Lib.VarReads P W name (Lib.tabData k zs)):Lib.TabIs P W name k zs:=by
 obtain⟨g',t',cs,fuel,p,hg',ht',hvar,hd⟩:=h;obtain rfl:=Option.some.inj (hg.symm.trans hg');obtain rfl:=Option.some.inj (hty.symm.trans ht');unfold Lib.TabIs;rw[hvar,<- Lib.cells_of_tab ht he hce hct hd]
theorem b9t{P:Program}{name:String}{zs:List (List UInt8)}{t e:TypeId}
  (hg:P.globalNamed name=some g) (hty:(P.globals[g]?).map (·.type)=some t) (ht:P.underlying t=some (.array n e)) (he:P.underlying e=some .string) (hce:P.cellsOf e=1)
  (h:Lib.VarReads P W name (.agg (zs.map fun z=>.lit (.string z)))) (i:Nat) (z:List UInt8) (hz:zs[i]?=some z):W.cell? ⟨g,i,none⟩=some (.string ⟨z.toArray⟩):=by
 obtain⟨g',t',cs,fuel,p,hg',ht',hvar,hd⟩:=h;obtain rfl:=Option.some.inj (hg.symm.trans hg');obtain rfl:=Option.some.inj (hty.symm.trans ht');obtain⟨xs,m,_,hx,_,hxl,hall⟩:=DataW.trod_array ht hd
 have hx1:zs.map (fun z=>(DataW.lit (.string z):DataW Unit))=xs.map (·.1):=by
  have:=congrArg Prod.fst hx
  simpa using this
 have hlen:zs.length=xs.length:=by
  have:=congrArg List.length hx1
  simpa using this
 have hi:i<zs.length:=(List.getElem?_eq_some_iff.1 hz).1;have hxi:xs[i]?=some xs[i]:=List.getElem?_eq_getElem (by omega);have hti:=hall i (by omega);rw[hxi,hce] at hti;obtain⟨s,hs1,hs2,_⟩:=DataW.trod_string he hti
 have h1:(xs.map (·.1))[i]?=some (DataW.lit (.string z):DataW Unit):=by rw[<- hx1];simp[hz]
 have h2:(xs.map (·.1))[i]?=some (DataW.lit (.string s.data.toList):DataW Unit):=by simp[hxi,hs2]
 have h3:z=s.data.toList:=by
  have:=h1.symm.trans h2
  simpa using this
 have h4:cs[i]?=some (.string s):=by
  have:=congrArg (·[0]?) hs1
  simpa[List.getElem?_take,List.getElem?_drop] using this
 rw[World.var?_cell hg hvar i,h4,h3]
theorem c3f:(Tryz.prog.globals[0]?).map (·.type)=some 306:=by kernel_rfl
theorem c3B:Tryz.prog.cellsOf 306=20:=by kernel_rfl
theorem c3z:Tryz.prog.cellsOf 265=1:=by kernel_rfl
theorem c6X : Tryz.prog.globalNamed "bookings/lines.weekdays" = some 3 := by kernel_rfl
theorem c0J:(Tryz.prog.globals[3]?).map (·.type)=some 352:=by kernel_rfl
theorem b8z : Tryz.prog.globalNamed "bookings/calendar.monthDays" = some 1 := by kernel_rfl
theorem c3g:(Tryz.prog.globals[1]?).map (·.type)=some 314:=by kernel_rfl
theorem c3C:Tryz.prog.cellsOf 314=12:=by kernel_rfl
theorem c6I:Tryz.prog.cellsOf 3=1:=by kernel_rfl
theorem b7n:Tryz.prog.cellsOf 9=1:=by kernel_rfl
theorem c6Y {W: World} {l: List (String × DataW Unit)} (hM : laidMet Tryz.prog l W) (hS : W.ShapedOpen Tryz.prog) (m1 : ("bookings/calendar.monthDays", Rows.laid_bookings_calendar_monthDays) ∈ l) (m2 : ("internal/strconv.uint64pow10", Rows.laid_internal_strconv_uint64pow10) ∈ l) (m3 : ("bookings/lines.weekdays", Rows.laid_bookings_lines_weekdays) ∈ l) : Env W := by
 have ht : Lib.VarReads Tryz.prog W "bookings/calendar.monthDays" (Lib.tabData .i64 [31, 28, 31, 30, 31, 30, 31, 31, 30, 31, 30, 31]) := Lib.laidMet.reads hM (d := Rows.laid_bookings_calendar_monthDays) m1;have hp : Lib.VarReads Tryz.prog W "internal/strconv.uint64pow10" (Lib.tabData .u64 Lib.pow10Tab) := Lib.laidMet.reads hM (d := Rows.laid_internal_strconv_uint64pow10) m2;have hd : Lib.VarReads Tryz.prog W "bookings/lines.weekdays" (.agg ([[109, 111], [116, 117], [119, 101], [116, 104], [102, 114], [115, 97], [115, 117]].map fun z => .lit (.string z))) := Lib.laidMet.reads hM (d := Rows.laid_bookings_lines_weekdays) m3;have day:=fun i z hz=>b9t c6X c0J Tryz.underlying352 Tryz.underlying9 b7n hd i z hz
 have tb:=b2G b8z c3g Tryz.underlying314 Tryz.underlying3 c6I c3C ht
 have hsz:10<=W.heap.size:=by
  have h0:(((begin Tryz.prog (fun _ _=>0) default).world.heap[9]?).bind Obj.row?).isSome=true:=by kernel_rfl
  obtain⟨⟨zero,t⟩,h1⟩:=Option.isSome_iff_exists.1 h0;obtain⟨cs,hh,_⟩:=hS.1 9 zero t (of_decide_eq_true (by kernel_rfl)) h1;exact (Array.getElem?_eq_some_iff.1 hh).1
 exact⟨⟨tb.cell b8z 0 (by decide),tb.cell b8z 1 (by decide),tb.cell b8z 2 (by decide),tb.cell b8z 3 (by decide),tb.cell b8z 4 (by decide),tb.cell b8z 5 (by decide),tb.cell b8z 6 (by decide),tb.cell b8z 7 (by decide),tb.cell b8z 8 (by decide),tb.cell b8z 9 (by decide),tb.cell b8z 10 (by decide),tb.cell b8z 11 (by decide)⟩,cell_of_shapedOpen_int (zero:=#[.int .i64 0]) (t:=3) hS (of_decide_eq_true (by kernel_rfl)) (by kernel_rfl) rfl (by kernel_rfl) (by kernel_rfl) Tryz.underlying3,
  b2G c6q c3f Tryz.underlying306 Tryz.underlying265 c3z c3B hp,hsz,
  day 0 _ rfl,day 1 _ rfl,day 2 _ rfl,day 3 _ rfl,day 4 _ rfl,day 5 _ rfl,day 6 _ rfl⟩
end Go.Proofs.YtfigmlfdnickmaaGreatDoor.EnvLaid
