import Derived.Test.YtfigmlfdnickmaaGreatDoorL01
set_option maxRecDepth 100000
set_option maxHeartbeats 8000000
variable{a c hi level lo long n st v y5 y6:Int}{f:Int->Int}{F F' Fl Fr G:List Nat}{M N b bk:Nat}{pl pr u:Option Go.Addr}{p:Go.Value}{X w w' w'':Go.World}
namespace Go.Proofs.YtfigmlfdnickmaaGreatDoor
open Go.RowKit
theorem a2d.later{t:Lev.T}(h:a2d w t p F)(k:Below w.heap.size w w'):a2d w' t p F:=h.same (Off.of_below k)
theorem c2I(lo hi a b:Int)(w:World):
  Calls Tryz.prog 211 #[.pointer none,.agg #[.int .i64 lo,.int .i64 hi],.agg #[.int .i64 a,.int .i64 b]] w fun e w'=>e=.returned (.int .i64 0)/\Below w.heap.size w w':=by
 go_enter Tryz.func211,Tryz.ntmps211
 go_wp2_with fail
 go_ret;exact⟨rfl,((zr _ _).alloc (zq _) _).alloc (by simp) _⟩
def MS(X w':World)(bk N M:Nat)(c lo hi a b:Int)(pl pr:Option Addr):Prop :=
 w'.cell? ⟨bk,0,none⟩=some (.int .i64 c)/\w'.cell? ⟨bk,3,none⟩=some (.pointer pl)/\w'.cell? ⟨bk,4,none⟩=some (.pointer pr)/\w'.cell? ⟨N,0,none⟩=some (.int .i64 a)/\w'.cell? ⟨N,1,none⟩=some (.int .i64 b)/\w'.cell? ⟨M,0,none⟩=some (.int .i64 lo)/\w'.cell? ⟨M,1,none⟩=some (.int .i64 (Lev.mid lo hi))/\w'.cell? ⟨M+1,0,none⟩=some (.int .i64 (Lev.mid lo hi))/\w'.cell? ⟨M+1,1,none⟩=some (.int .i64 hi)/\Below X.heap.size X w'
theorem MS.later{b:Int}(h:MS X w' bk N M c lo hi a b pl pr)(k:Below w'.heap.size w' w''):MS X w'' bk N M c lo hi a b pl pr:=by
 obtain⟨h1,h2,h3,h4,h5,h6,h7,h8,h9,h10⟩:=h;exact⟨a0a k h1,a0a k h2,a0a k h3,a0a k h4,a0a k h5,a0a k h6,a0a k h7,a0a k h8,a0a k h9,a0j h10 k (zq _)⟩
theorem b6F{t:Lev.T}{b:Int}(hg:Lev.Good t lo hi)(hB:LB t)(h1:lo<hi)(h2:a<b):0<=Lev.a2g t lo hi a b/\Lev.a2g t lo hi a b<=100000000:=by
 have:=hB.top
 cases hp:Lev.apart lo hi a b
 ·obtain⟨k0,_,x,k1,k2,_,_,k5⟩:=Lev.b6E t lo hi a b h1 h2 hg hp;have:=(Lev.a8H t lo hi h1 hg).1 x k1 k2;omega
 ·rw[Lev.a4p hp];omega
theorem c2J:∀ (t:Lev.T)(u:Option Addr)(F:List Nat)(lo hi a b:Int)(w:World),a2d w t (.pointer u) F->LB t->Lev.Good t lo hi->0<=lo->lo<hi->hi<=2000000->a<b ->
  Calls Tryz.prog 211 #[.pointer u,.agg #[.int .i64 lo,.int .i64 hi],.agg #[.int .i64 a,.int .i64 b]] w fun e w'=>e=.returned (.int .i64 (Lev.a2g t lo hi a b))/\Below w.heap.size w w':=by
 intro t
 induction t with
 |nil =>
  intro u F lo hi a b w h _ _ _ _ _ _;obtain⟨hu,_⟩:=h
  cases hu
  exact c2I lo hi a b w
 |node c l r ihl ihr =>
  intro u F lo hi a b w h hB hg h0 h1 h2 h4;obtain⟨bk,pl,pr,Fl,Fr,rfl,rfl,hh⟩:=a7G h;have IHL:=a0b ihl;have IHR:=a0b ihr;clear ihl ihr
  have c1:w.cell? ⟨bk,1,none⟩=some (.int .i64 (Lev.top (.node c l r))):=by
   obtain⟨b',_,_,_,_,hp,_,c1,_⟩:=h;cases hp;exact c1
  clear h
  cases hp:Lev.apart lo hi a b
  ·cases hw:Lev.within lo hi a b
   ·have em:Lev.a2g (.node c l r) lo hi a b=c+max (Lev.a2g l lo (Lev.mid lo hi) a b) (Lev.a2g r (Lev.mid lo hi) hi a b):=by simp[Lev.a2g,hp,hw]
    have g1:=Lev.a1r.1 hp;have g2:=Lev.a3W.1 hw;have hm:lo<Lev.mid lo hi/\Lev.mid lo hi<hi:=by unfold Lev.mid;omega
    have bl:=b6F (a:=a) (b:=b) hg.2.2.1 hB.2.2.2.1 hm.1 h4;have br:=b6F (a:=a) (b:=b) hg.2.2.2 hB.2.2.2.2 hm.2 h4;have hc:=hB.1
    have I1:Hid (∀ (w:World),a2d w l (.pointer pl) Fl->Calls Tryz.prog 211 #[.pointer pl,.agg #[.int .i64 lo,.int .i64 (Lev.mid lo hi)],.agg #[.int .i64 a,.int .i64 b]] w fun e w'=>e=.returned (.int .i64 (Lev.a2g l lo (Lev.mid lo hi) a b))/\Below w.heap.size w w') :=
     fun w k=>IHL.out _ _ _ _ _ _ _ k hB.2.2.2.1 hg.2.2.1 h0 hm.1 (by omega) h4
    have I2:Hid (∀ (w:World),a2d w r (.pointer pr) Fr->Calls Tryz.prog 211 #[.pointer pr,.agg #[.int .i64 (Lev.mid lo hi),.int .i64 hi],.agg #[.int .i64 a,.int .i64 b]] w fun e w'=>e=.returned (.int .i64 (Lev.a2g r (Lev.mid lo hi) hi a b))/\Below w.heap.size w w') :=
     fun w k=>IHR.out _ _ _ _ _ _ _ k hB.2.2.2.2 hg.2.2.2 (by omega) hm.2 h2 h4
    rw[em];clear em IHL IHR g1 g2 hg hB c1;generalize Lev.a2g l lo (Lev.mid lo hi) a b=ml at *;generalize Lev.a2g r (Lev.mid lo hi) hi a b=mr at *;have c0:=hh.c0;have c3:=hh.c3;have c4:=hh.c4;have RL:=a0b hh.l;have RR:=a0b hh.r;clear hh;have e5:IntKind.i64.wrap (c+if ml<mr then mr else ml)=c+max ml mr:=by rw[c0q];exact a0i (by omega) (by omega)
    have E5:=a0b e5;clear e5
    go_enter Tryz.func211,Tryz.ntmps211
    go_wp2_with fail
    refine (a0N _ _ _ _ _).mono ?_;rintro e w1 ⟨rfl,hb⟩;rw[hp];have ⟨q0,q1,q2,q3,hs,hB⟩:=boxes hb;have d0:=a0a hB c0;have d3:=a0a hB c3;have d4:=a0a hB c4;have HB:=a0b hB;clear hB hb c0 c3 c4
    go_wp2_with fail
    refine (a2v _ _ _ _ _).mono ?_;rintro e w2 ⟨rfl,hb⟩;rw[hw];have HC:=a0b (a0j HB.out hb (zq _));have r0:w2.cell? ⟨w.heap.size,0,none⟩=some (.int .i64 lo):=a0a hb q0;have r1:w2.cell? ⟨w.heap.size,1,none⟩=some (.int .i64 hi):=a0a hb q1;have r2:w2.cell? ⟨w.heap.size+1,0,none⟩=some (.int .i64 a):=a0a hb q2;have r3:w2.cell? ⟨w.heap.size+1,1,none⟩=some (.int .i64 b):=a0a hb q3;have e0:=a0a hb d0;have e3:=a0a hb d3;have e4:=a0a hb d4;clear HB hb q0 q1 q2 q3 hs d0 d3 d4
    go_wp2_with fail
    refine (a4c _ _ _ (by omega) (by omega) (by omega)).mono ?_;rintro e w3 ⟨rfl,hb⟩;have hX:Below w2.heap.size w2 ((w3.alloc (.cells #[.int .i64 lo,.int .i64 (Lev.mid lo hi)] 60)).alloc (.cells #[.int .i64 (Lev.mid lo hi),.int .i64 hi] 60)):=(hb.alloc hb.size _).alloc (by have:=hb.size;simp;omega) _
    have hM:MS ((w3.alloc (.cells #[.int .i64 lo,.int .i64 (Lev.mid lo hi)] 60)).alloc (.cells #[.int .i64 (Lev.mid lo hi),.int .i64 hi] 60)) ((w3.alloc (.cells #[.int .i64 lo,.int .i64 (Lev.mid lo hi)] 60)).alloc (.cells #[.int .i64 (Lev.mid lo hi),.int .i64 hi] 60)) bk (w.heap.size+1) w3.heap.size c lo hi a b pl pr :=
     ⟨a0a hX e0,a0a hX e3,a0a hX e4,a0a hX r2,a0a hX r3,by simp,by simp,by simp,by simp,Below.refl _ _⟩
    have HX:=a0b (zA (a0j HC.out hX (zq _)) (zA (RL.out.later (a0j HC.out hX (zq _))) (RR.out.later (a0j HC.out hX (zq _)))));clear HC RL RR hX hb r0 r1 r2 r3 e0 e3 e4
    go_upto_region 6 with fail
    generalize (World.alloc _ (.cells #[.int .i64 (Lev.mid lo hi),.int .i64 hi] 60))=X at hM HX ⊢;generalize w3.heap.size=M at hM ⊢
    go_region_held3 (fun w'=>w'.cell? ⟨bk,0,none⟩=some (.int .i64 c)/\w'.cell? ⟨bk,3,none⟩=some (.pointer pl)/\w'.cell? ⟨bk,4,none⟩=some (.pointer pr)/\w'.cell? ⟨w.heap.size+1,0,none⟩=some (.int .i64 a)/\w'.cell? ⟨w.heap.size+1,1,none⟩=some (.int .i64 b)/\w'.cell? ⟨M,0,none⟩=some (.int .i64 lo)/\w'.cell? ⟨M,1,none⟩=some (.int .i64 (Lev.mid lo hi))/\w'.cell? ⟨M+1,0,none⟩=some (.int .i64 (Lev.mid lo hi))/\w'.cell? ⟨M+1,1,none⟩=some (.int .i64 hi)/\Below X.heap.size X w')
     (first
      |exact MS.later hM (a0q _)
      |(go_split_ands;exact MS.later hM (a0j (by assumption) hbf (zq _))))
     (first
      |(go_at_call_of 211 (Value.pointer pl);go_split_ands;refine (I1.out _ (HX.out.2.1.later (by assumption))).mono ?_;rintro e w4 ⟨rfl,hbf⟩)
      |(go_at_call_of 211 (Value.pointer pr);go_split_ands;refine (I2.out _ (HX.out.2.2.later (by assumption))).mono ?_;rintro e w4 ⟨rfl,hbf⟩))
    rw[E5.out,a7z];have HF:=a0b (a0j HX.out.1 (by go_split_ands;assumption:Below X.heap.size X w4) (zq _));clear hM HX I1 I2
    go_wp2_with fail
    go_ret;exact⟨rfl,HF.out⟩
   ·have em:Lev.a2g (.node c l r) lo hi a b=Lev.top (.node c l r):=by simp[Lev.a2g,hp,hw,Lev.top]
    rw[em];clear em;generalize Lev.top (.node c l r)=tp at c1 ⊢
    go_enter Tryz.func211,Tryz.ntmps211
    go_wp2_with fail
    refine (a0N _ _ _ _ _).mono ?_;rintro e w1 ⟨rfl,hb⟩;rw[hp];have ⟨q0,q1,q2,q3,hs,hB⟩:=boxes hb;have d1:=a0a hB c1;have HB:=a0b hB;clear hB hb c1
    go_wp2_with fail
    refine (a2v _ _ _ _ _).mono ?_;rintro e w2 ⟨rfl,hb⟩;rw[hw];have d2:=a0a hb d1;have HC:=a0b (a0j HB.out hb (zq _));clear HB hb q0 q1 q2 q3 hs d1
    go_wp2_with fail
    go_ret;exact⟨rfl,HC.out⟩
  ·have em:Lev.a2g (.node c l r) lo hi a b=0:=Lev.a4p hp;rw[em];clear em
   go_enter Tryz.func211,Tryz.ntmps211
   go_wp2_with fail
   refine (a0N _ _ _ _ _).mono ?_;rintro e w1 ⟨rfl,hb⟩;rw[hp];have HB:=a0b (boxes hb).bw;clear hb
   go_wp2_with fail
   go_ret;exact⟨rfl,HB.out⟩
theorem a2N(w:World):Calls Tryz.prog 212 #[] w fun e w'=>e=.returned (.agg #[.int .i64 0,.int .i64 1048320])/\Below w.heap.size w w':=by
 go_enter Tryz.func212,Tryz.ntmps212
 go_wp2;exact bodyPost_ret (v:=.agg #[.int .i64 0,.int .i64 1048320]) (by simp[results,Tryz.results212,go_sem]) rfl ⟨rfl,(zr _ _).alloc (zq _) _⟩
theorem b7x(t:Lev.T)(tb o:Nat)(u:Option Addr)(F:List Nat)(a b:Int)(w:World)(c:w.cell? ⟨tb,o,none⟩=some (.pointer u))(h:a2d w t (.pointer u) F)(hB:LB t)(hg:Lev.Good t 0 1048320)(h1:a<b):
  Calls Tryz.prog 153 #[.pointer (some ⟨tb,o,none⟩),.agg #[.int .i64 a,.int .i64 b]] w fun e w'=>e=.returned (.int .i64 (Lev.a2g t 0 1048320 a b))/\Below w.heap.size w w':=by
 have HR:=a0b h;clear h
 go_enter Tryz.func153,Tryz.ntmps153
 go_upto_region 1 with fail
 have hX:Below w.heap.size w (w.alloc (.cells #[.int .i64 a,.int .i64 b] 60)):=(zr _ _).alloc (zq _) _;have x0:(w.alloc (.cells #[.int .i64 a,.int .i64 b] 60)).cell? ⟨w.heap.size,0,none⟩=some (.int .i64 a):=by simp
 have x1:(w.alloc (.cells #[.int .i64 a,.int .i64 b] 60)).cell? ⟨w.heap.size,1,none⟩=some (.int .i64 b):=by simp
 have xc:=a0a hX c;have HX:=a0b hX;clear hX;generalize (World.alloc w (.cells #[.int .i64 a,.int .i64 b] 60))=X at x0 x1 xc HX ⊢
 go_region_held3 (fun w'=>w'.cell? ⟨tb,o,none⟩=some (.pointer u)/\w'.cell? ⟨w.heap.size,0,none⟩=some (.int .i64 a)/\w'.cell? ⟨w.heap.size,1,none⟩=some (.int .i64 b)/\Below X.heap.size X w')
  (first
   |exact⟨xc,x0,x1,a0q _⟩
   |(go_split_ands;exact⟨a0a hbf (by assumption),a0a hbf (by assumption),a0a hbf (by assumption),a0j (by assumption) hbf (zq _)⟩))
  (first
   |(go_at_call 212;go_split_ands;refine (a2N _).mono ?_;rintro e w4 ⟨rfl,hbf⟩)
   |(go_at_call 211;go_split_ands;refine (c2J t u F 0 1048320 a b _ (HR.out.later (a0j HX.out (by assumption) (zq _))) hB hg (by omega) (by omega) (by omega) h1).mono ?_;rintro e w4 ⟨rfl,hbf⟩))
 have HF:=a0b (a0j HX.out (by go_split_ands;assumption:Below X.heap.size X w4) (zq _));clear HX HR
 go_wp2_with fail
 go_ret;exact⟨rfl,HF.out⟩
def a6p(w:World)(tb o:Nat)(F:List Nat)(t':Lev.T)(w':World):Prop :=
 ∃ (u':Option Addr) (F':List Nat),w'.cell? ⟨tb,o,none⟩=some (.pointer u')/\a2d w' t' (.pointer u') F'/\(∀ k∈F',k∈F\/w.heap.size<=k)/\Off (tb :: F) w w'/\(∀ o',o'≠o->w'.cell? ⟨tb,o',none⟩=w.cell? ⟨tb,o',none⟩)/\∀ o',w'.frozen? ⟨tb,o',none⟩=w.frozen? ⟨tb,o',none⟩
theorem c5E{w4 w5:World}{tb o:Nat}{F5:List Nat}{t':Lev.T}{v:Value}{u5:Option Addr}(h1:Below w.heap.size w w4)(htb:tb<w.heap.size)(hn:tb ∉ F)(k1:a2d w5 t' (.pointer u5) F5)(k2:∀ k∈F5,k∈F\/w4.heap.size<=k)(k3:Off F w4 w5)(z0:w5.cell? ⟨tb,o,none⟩=some v):a6p w tb o F t' (w5.setCell ⟨tb,o,none⟩ (.pointer u5)):=by
 have hs:=h1.size;have o4:Off [] w w4:=Off.of_below h1;have hn5:tb ∉ F5:=fun e=>by rcases k2 tb e with h|h;exact hn h;omega
 have e5:w5.heap[tb]?=w.heap[tb]?:=(k3.block tb (by omega) hn).trans (o4.block tb htb (by simp));refine⟨u5,F5,World.cell?_setCell_same _ _ _ z0,k1.off (Off.set0 ..) (fun x hx=>by simp;rintro rfl;exact hn5 hx),fun k hk=>?_,?_,fun o' ho=>?_,fun o'=>?_⟩
 ·rcases k2 k hk with h|h
  ·exact .inl h
  ·exact .inr (by omega)
 ·exact ((Off.of_below (F:=tb :: F) h1).trans (k3.mono (by intro x hx;simp[hx]))).setCell (.inl (by simp)) _ _
 ·exact (zS _ _ _ _ (by simp)).trans (zo (w:=w) e5)
 ·refine (zF ..).trans ?_;simp only[World.frozen?,e5]
theorem c5J(t:Lev.T)(tb o:Nat)(u:Option Addr)(F:List Nat)(a b x:Int)(w:World)(c:w.cell? ⟨tb,o,none⟩=some (.pointer u))(f:w.frozen? ⟨tb,o,none⟩=false)(hn:tb ∉ F)(h:a2d w t (.pointer u) F)(h1:a<b)(hx1:-1000000<=x)(hx2:x<=1000000)(hB1:LB t)(hB2:LB (Lev.a6q 20 t 0 1048320 a b x)):
  Calls Tryz.prog 219 #[.pointer (some ⟨tb,o,none⟩),.agg #[.int .i64 a,.int .i64 b],.int .i64 x] w fun e w'=>e=.returned (.tuple #[])/\a6p w tb o F (Lev.a6q 20 t 0 1048320 a b x) w':=by
 have AS:Hid (∀ (w':World),a2d w' t (.pointer u) F->Calls Tryz.prog 261 #[.pointer u,.agg #[.int .i64 0,.int .i64 1048320],.agg #[.int .i64 a,.int .i64 b],.int .i64 x] w' (b4f w' F (Lev.a6q 20 t 0 1048320 a b x))) :=
  fun w' k=>c5F 20 t u F 0 1048320 a b x w' k (by omega) (by omega) (by omega) (by decide) h1 hx1 hx2 hB1 hB2
 have HR:=a0b h;have htb:=World.block_lt_of_cell? _ _ c;generalize Lev.a6q 20 t 0 1048320 a b x=t' at *;clear h hB1 hB2
 go_enter Tryz.func219,Tryz.ntmps219
 go_upto_region 1 with fail
 have hX:Below w.heap.size w (w.alloc (.cells #[.int .i64 a,.int .i64 b] 60)):=(zr _ _).alloc (zq _) _;have x0:(w.alloc (.cells #[.int .i64 a,.int .i64 b] 60)).cell? ⟨w.heap.size,0,none⟩=some (.int .i64 a):=by simp
 have x1:(w.alloc (.cells #[.int .i64 a,.int .i64 b] 60)).cell? ⟨w.heap.size,1,none⟩=some (.int .i64 b):=by simp
 have xc:=a0a hX c;have HX:=a0b hX;clear hX;generalize (World.alloc w (.cells #[.int .i64 a,.int .i64 b] 60))=X at x0 x1 xc HX ⊢
 go_region_with (first
  |(go_at_call 212;refine (a2N _).mono ?_;rintro e w4 ⟨rfl,hbf⟩;have y0:=a0a hbf (show World.cell? (World.drew X) _=_ from x0);have y1:=a0a hbf (show World.cell? (World.drew X) _=_ from x1);have yc:=a0a hbf (show World.cell? (World.drew X) _=_ from xc))
  |(go_at_call 261;refine (AS.out _ (HR.out.later (a0j HX.out (a0j (a0q _) hbf (zq _)) (zq _)))).mono ?_;rintro e w5 ⟨u5,F5,rfl,k1,k2,k3⟩;have z0:=k3.cell hn yc;have zf:=(k3.frozen (o:=o) hn (World.block_lt_of_cell? _ _ yc)).trans (((Off.of_below (F:=[]) (a0j HX.out (a0j (a0q _) hbf (zq _)) (zq _))).frozen (by simp) htb).trans f)))
 all_goals
  have HK:=a0b (c5E (a0j HX.out (a0j (a0q _) hbf (zq _)) (zq _)) htb hn k1 k2 k3 z0);clear k1 k2 k3 z0 zf y0 y1 yc x0 x1 xc HX HR AS
  go_wp2_with fail
  go_end0
  exact⟨rfl,HK.out⟩
def c7B(up:Bool):Nat:=if up then 213 else 215
def ask(up:Bool)(k:Nat):Value:=.func (.func (c7B up)) #[] #[.pointer (some ⟨k,0,none⟩)]
theorem c7d(t:Lev.T)(u:Option Addr)(F:List Nat)(c level:Int)(k:Nat)(w:World)(h:a2d w t (.pointer u) F)(hB:LB t)(hc:w.cell? ⟨k,0,none⟩=some (.int .i64 level))(h1:-1000000000<=c)(h2:c<=1000000000):
  Calls Tryz.prog 213 #[.pointer u,.int .i64 c,.pointer (some ⟨k,0,none⟩)] w fun e w'=>e=.returned (.bool (Lev.a2X true level t c))/\Below w.heap.size w w':=by
 have hb:=hB.top;clear hB
 go_enter Tryz.func213,Tryz.ntmps213
 go_wp2_with fail
 go_region_held3 (fun w'=>w'.cell? ⟨k,0,none⟩=some (.int .i64 level)/\Below w.heap.size w w')
  (exact⟨hc,a0q _⟩)
  (first|(go_at_call 214;go_split_ands;refine (a6K _ (h.later (by assumption))).mono ?_;rintro e w' ⟨rfl,rfl⟩))
 go_wp2_with fail
 go_ret;exact⟨a2C (by simp only[Lev.a2X];rw[a0i (by omega) (by omega)];simp),a0q _⟩
theorem c7c(t:Lev.T)(u:Option Addr)(F:List Nat)(c level:Int)(k:Nat)(w:World)(h:a2d w t (.pointer u) F)(hB:LB t)(hc:w.cell? ⟨k,0,none⟩=some (.int .i64 level))(h1:-1000000000<=c)(h2:c<=1000000000):
  Calls Tryz.prog 215 #[.pointer u,.int .i64 c,.pointer (some ⟨k,0,none⟩)] w fun e w'=>e=.returned (.bool (Lev.a2X false level t c))/\Below w.heap.size w w':=by
 have hb:=hB.bot;clear hB
 go_enter Tryz.func215,Tryz.ntmps215
 go_wp2_with fail
 go_region_held3 (fun w'=>w'.cell? ⟨k,0,none⟩=some (.int .i64 level)/\Below w.heap.size w w')
  (exact⟨hc,a0q _⟩)
  (first|(go_at_call 216;go_split_ands;refine (a6M _ (h.later (by assumption))).mono ?_;rintro e w' ⟨rfl,rfl⟩))
 go_wp2_with fail
 go_ret;exact⟨a2C (by simp only[Lev.a2X];rw[a0i (by omega) (by omega)];simp),a0q _⟩
theorem a5E{t:Lev.T}(w:World)(h:a2d w t (.pointer u) F):
  Calls Tryz.prog 260 #[.pointer u] w fun e w'=>e=.returned (.bool (Lev.flat t))/\w'=w:=by
 cases t with
 |nil=>obtain⟨h1,_⟩:=h;cases h1;exact b8t w
 |node a l r =>
  obtain⟨b,pl,pr,Fl,Fr,rfl,rfl,hh⟩:=a7G h;have e:Lev.flat (.node a l r)=b5g pl pr:=by rw[b5g,hh.l.isNone,hh.r.isNone];rfl
  rw[e];exact a6e b pl pr w hh.c3 hh.c4
def fmV:Option Int->Value
 |none=>.tuple #[.int .i64 0,.bool false]
 |some x=>.tuple #[.int .i64 x,.bool true]
theorem c4b{x y:Int}(h:x=y):Ending.returned (.tuple #[.int .i64 x,.bool true])=.returned (fmV (some y)):=by rw[h];rfl
theorem a4t(up:Bool)(u:Option Addr)(lo hi a b c:Int)(k:Nat)(w:World)(hp:Lev.apart lo hi a b=true):
  Calls Tryz.prog 217 #[.pointer u,.agg #[.int .i64 lo,.int .i64 hi],.agg #[.int .i64 a,.int .i64 b],.int .i64 c,ask up k] w fun e w'=>e=.returned (fmV none)/\Below w.heap.size w w':=by
 generalize ask up k=q
 go_enter Tryz.func217,Tryz.ntmps217
 go_wp2_with fail
 refine (a0N _ _ _ _ _).mono ?_;rintro e w1 ⟨rfl,hb⟩;rw[hp];have HB:=a0b (boxes hb).bw;clear hb
 go_wp2_with fail
 go_ret2;exact⟨rfl,HB.out⟩
theorem a5g(t:Lev.T)(u:Option Addr)(F:List Nat)(lo hi a b c level:Int)(k:Nat)(w:World)(h:a2d w t (.pointer u) F)(hB:LB t)(hc:w.cell? ⟨k,0,none⟩=some (.int .i64 level))(h1:-1000000000<=c)(h2:c<=1000000000)(hp:Lev.apart lo hi a b=false)(hw:Lev.a2X true level t c=false):
  Calls Tryz.prog 217 #[.pointer u,.agg #[.int .i64 lo,.int .i64 hi],.agg #[.int .i64 a,.int .i64 b],.int .i64 c,.func (.func 213) #[] #[.pointer (some ⟨k,0,none⟩)]] w fun e w'=>e=.returned (fmV none)/\Below w.heap.size w w':=by
 have AK:=a0b (fun w' k'=>c7d t u F c level k w' (a2d.later h k') hB (a0a k' hc) h1 h2);clear hB
 go_enter Tryz.func217,Tryz.ntmps217
 go_wp2_with fail
 refine (a0N _ _ _ _ _).mono ?_;rintro e w1 ⟨rfl,hb⟩;rw[hp];have HB:=a0b (boxes hb).bw;clear hb
 go_wp2_with fail
 refine (AK.out _ HB.out).mono ?_;rintro e w2 ⟨rfl,hb⟩;rw[hw];have HC:=a0b (a0j HB.out hb (zq _));clear HB hb
 go_wp2_with fail
 go_ret2;exact⟨rfl,HC.out⟩
theorem a5h(t:Lev.T)(u:Option Addr)(F:List Nat)(lo hi a b c level:Int)(k:Nat)(w:World)(h:a2d w t (.pointer u) F)(hB:LB t)(hc:w.cell? ⟨k,0,none⟩=some (.int .i64 level))(h1:-1000000000<=c)(h2:c<=1000000000)(hp:Lev.apart lo hi a b=false)(hw:Lev.a2X true level t c=true)(hf:Lev.flat t=true):
  Calls Tryz.prog 217 #[.pointer u,.agg #[.int .i64 lo,.int .i64 hi],.agg #[.int .i64 a,.int .i64 b],.int .i64 c,.func (.func 213) #[] #[.pointer (some ⟨k,0,none⟩)]] w fun e w'=>e=.returned (fmV (some (max lo a)))/\Below w.heap.size w w':=by
 have AK:=a0b (fun w' k'=>c7d t u F c level k w' (a2d.later h k') hB (a0a k' hc) h1 h2);clear hB
 go_enter Tryz.func217,Tryz.ntmps217
 go_wp2_with fail
 refine (a0N _ _ _ _ _).mono ?_;rintro e w1 ⟨rfl,hb⟩;rw[hp];have ⟨q0,q1,q2,q3,hs,hBw⟩:=boxes hb;have HB:=a0b hBw;clear hb hBw
 go_wp2_with fail
 refine (AK.out _ HB.out).mono ?_;rintro e w2 ⟨rfl,hb⟩;rw[hw];have r0:=a0a hb q0;have r2:=a0a hb q2;have HC:=a0b (a0j HB.out hb (zq _));clear HB hb q0 q1 q2 q3 hs
 go_wp2_with fail
 refine (a5E _ (h.later HC.out)).mono ?_;rintro e w3 ⟨rfl,rfl⟩;rw[hf]
 go_wp2_with fail
 all_goals
  go_ret2;exact⟨c4b (by omega),HC.out⟩
theorem a4F(t:Lev.T)(u:Option Addr)(F:List Nat)(lo hi a b c level:Int)(k:Nat)(w:World)(h:a2d w t (.pointer u) F)(hB:LB t)(hc:w.cell? ⟨k,0,none⟩=some (.int .i64 level))(h1:-1000000000<=c)(h2:c<=1000000000)(hp:Lev.apart lo hi a b=false)(hw:Lev.a2X false level t c=false):
  Calls Tryz.prog 217 #[.pointer u,.agg #[.int .i64 lo,.int .i64 hi],.agg #[.int .i64 a,.int .i64 b],.int .i64 c,.func (.func 215) #[] #[.pointer (some ⟨k,0,none⟩)]] w fun e w'=>e=.returned (fmV none)/\Below w.heap.size w w':=by
 have AK:=a0b (fun w' k'=>c7c t u F c level k w' (a2d.later h k') hB (a0a k' hc) h1 h2);clear hB
 go_enter Tryz.func217,Tryz.ntmps217
 go_wp2_with fail
 refine (a0N _ _ _ _ _).mono ?_;rintro e w1 ⟨rfl,hb⟩;rw[hp];have HB:=a0b (boxes hb).bw;clear hb
 go_wp2_with fail
 refine (AK.out _ HB.out).mono ?_;rintro e w2 ⟨rfl,hb⟩;rw[hw];have HC:=a0b (a0j HB.out hb (zq _));clear HB hb
 go_wp2_with fail
 go_ret2;exact⟨rfl,HC.out⟩
theorem a4G(t:Lev.T)(u:Option Addr)(F:List Nat)(lo hi a b c level:Int)(k:Nat)(w:World)(h:a2d w t (.pointer u) F)(hB:LB t)(hc:w.cell? ⟨k,0,none⟩=some (.int .i64 level))(h1:-1000000000<=c)(h2:c<=1000000000)(hp:Lev.apart lo hi a b=false)(hw:Lev.a2X false level t c=true)(hf:Lev.flat t=true):
  Calls Tryz.prog 217 #[.pointer u,.agg #[.int .i64 lo,.int .i64 hi],.agg #[.int .i64 a,.int .i64 b],.int .i64 c,.func (.func 215) #[] #[.pointer (some ⟨k,0,none⟩)]] w fun e w'=>e=.returned (fmV (some (max lo a)))/\Below w.heap.size w w':=by
 have AK:=a0b (fun w' k'=>c7c t u F c level k w' (a2d.later h k') hB (a0a k' hc) h1 h2);clear hB
 go_enter Tryz.func217,Tryz.ntmps217
 go_wp2_with fail
 refine (a0N _ _ _ _ _).mono ?_;rintro e w1 ⟨rfl,hb⟩;rw[hp];have ⟨q0,q1,q2,q3,hs,hBw⟩:=boxes hb;have HB:=a0b hBw;clear hb hBw
 go_wp2_with fail
 refine (AK.out _ HB.out).mono ?_;rintro e w2 ⟨rfl,hb⟩;rw[hw];have r0:=a0a hb q0;have r2:=a0a hb q2;have HC:=a0b (a0j HB.out hb (zq _));clear HB hb q0 q1 q2 q3 hs
 go_wp2_with fail
 refine (a5E _ (h.later HC.out)).mono ?_;rintro e w3 ⟨rfl,rfl⟩;rw[hf]
 go_wp2_with fail
 all_goals
  go_ret2;exact⟨c4b (by omega),HC.out⟩
def b1k(up:Bool)(fn:Nat)(t:Lev.T):Prop:=∀ (u:Option Addr)(F:List Nat)(lo hi a b c level:Int)(k:Nat)(w:World),a2d w t (.pointer u) F->LB t->Lev.Good t lo hi->w.cell? ⟨k,0,none⟩=some (.int .i64 level)->0<=c->c+Lev.top t<=100000000->0<=lo->lo<hi->hi<=2000000->a<b ->
  Calls Tryz.prog 217 #[.pointer u,.agg #[.int .i64 lo,.int .i64 hi],.agg #[.int .i64 a,.int .i64 b],.int .i64 c,.func (.func fn) #[] #[.pointer (some ⟨k,0,none⟩)]] w fun e w'=>e=.returned (fmV (Lev.fm up level t lo hi a b c))/\Below w.heap.size w w'
def FS(X w':World)(bk N M:Nat)(v lo hi a b:Int)(pl pr:Option Addr):Prop :=
 w'.cell? ⟨bk,0,none⟩=some (.int .i64 v)/\w'.cell? ⟨bk,3,none⟩=some (.pointer pl)/\w'.cell? ⟨bk,4,none⟩=some (.pointer pr)/\w'.cell? ⟨N,0,none⟩=some (.int .i64 a)/\w'.cell? ⟨N,1,none⟩=some (.int .i64 b)/\w'.cell? ⟨M,0,none⟩=some (.int .i64 lo)/\w'.cell? ⟨M,1,none⟩=some (.int .i64 (Lev.mid lo hi))/\w'.cell? ⟨M+1,0,none⟩=some (.int .i64 (Lev.mid lo hi))/\w'.cell? ⟨M+1,1,none⟩=some (.int .i64 hi)/\Below X.heap.size X w'
theorem FS.later{b:Int}(h:FS X w' bk N M v lo hi a b pl pr)(k:Below w'.heap.size w' w''):FS X w'' bk N M v lo hi a b pl pr:=by
 obtain⟨h1,h2,h3,h4,h5,h6,h7,h8,h9,h10⟩:=h;exact⟨a0a k h1,a0a k h2,a0a k h3,a0a k h4,a0a k h5,a0a k h6,a0a k h7,a0a k h8,a0a k h9,a0j h10 k (zq _)⟩
theorem c4c{up:Bool}{b:Int}{l r:Lev.T}(hp:Lev.apart lo hi a b=false)(hw:Lev.a2X up level (.node v l r) c=true)(hf:Lev.flat (.node v l r)=false):Lev.fm up level (.node v l r) lo hi a b c=match Lev.fm up level l lo (Lev.mid lo hi) a b (c+v) with|some x=>some x|none=>Lev.fm up level r (Lev.mid lo hi) hi a b (c+v):=by
 have hf':(Lev.isNil l && Lev.isNil r)=false:=hf;rw[Lev.fm];simp only[hp,hw,hf',Bool.false_or,Bool.not_true,Bool.false_eq_true,if_false];rfl
theorem b0j(v:Int)(l r:Lev.T)(ihl:Hid (b1k true 213 l))(ihr:Hid (b1k true 213 r))(u:Option Addr)(F:List Nat)(lo hi a b c level:Int)(k:Nat)(w:World)(h:a2d w (.node v l r) (.pointer u) F)(hB:LB (.node v l r))(hg:Lev.Good (.node v l r) lo hi)(hc:w.cell? ⟨k,0,none⟩=some (.int .i64 level))(h1:0<=c)(h2:c+Lev.top (.node v l r)<=100000000)(h3:0<=lo)(h4:lo<hi)(h5:hi<=2000000)(h6:a<b)
  (hp:Lev.apart lo hi a b=false) (hw:Lev.a2X true level (.node v l r) c=true) (hf:Lev.flat (.node v l r)=false):
  Calls Tryz.prog 217 #[.pointer u,.agg #[.int .i64 lo,.int .i64 hi],.agg #[.int .i64 a,.int .i64 b],.int .i64 c,.func (.func 213) #[] #[.pointer (some ⟨k,0,none⟩)]] w fun e w'=>e=.returned (fmV (Lev.fm true level (.node v l r) lo hi a b c))/\Below w.heap.size w w':=by
 have tp:=hB.top;have tl:=hB.2.2.2.1.top;have tr:=hB.2.2.2.2.top;have hv:=hB.1;have hv0:=hg.1;have ht:Lev.top (.node v l r)=v+max (Lev.top l) (Lev.top r):=rfl;have gl:=Lev.a2O l lo (Lev.mid lo hi) 0 hg.2.2.1
 have t0:0<=Lev.top (.node v l r):=by
  obtain⟨_,x,_,_,e⟩:=Lev.a8H (.node v l r) lo hi h4 hg;have:=Lev.a2O (.node v l r) lo hi x hg;omega
 have h2':2<=hi-lo:=by
  rcases hg.2.1 with ⟨e1,e2⟩|h2
  ·have hf':(Lev.isNil l && Lev.isNil r)=false:=hf;simp[e1,e2] at hf'
  ·exact h2
 have hm:lo<Lev.mid lo hi/\Lev.mid lo hi<hi:=by unfold Lev.mid;omega
 have AK:=a0b (fun w' k'=>c7d (.node v l r) u F c level k w' (a2d.later h k') hB (a0a k' hc) (by omega) (by omega));have HFL:=a0b (fun (w':World) (k':Below w.heap.size w w')=>a5E w' (a2d.later h k'));obtain⟨bk,pl,pr,Fl,Fr,rfl,rfl,hh⟩:=a7G h
 have I1:Hid (∀ w',Below w.heap.size w w'->Calls Tryz.prog 217 #[.pointer pl,.agg #[.int .i64 lo,.int .i64 (Lev.mid lo hi)],.agg #[.int .i64 a,.int .i64 b],.int .i64 (c+v),.func (.func 213) #[] #[.pointer (some ⟨k,0,none⟩)]] w' fun e w''=>e=.returned (fmV (Lev.fm true level l lo (Lev.mid lo hi) a b (c+v)))/\Below w'.heap.size w' w'') :=
  fun w' k'=>ihl.out pl Fl lo _ a b (c+v) level k w' (hh.l.later k') hB.2.2.2.1 hg.2.2.1 (a0a k' hc) (by omega) (by omega) h3 hm.1 (by omega) h6
 have I2:Hid (∀ w',Below w.heap.size w w'->Calls Tryz.prog 217 #[.pointer pr,.agg #[.int .i64 (Lev.mid lo hi),.int .i64 hi],.agg #[.int .i64 a,.int .i64 b],.int .i64 (c+v),.func (.func 213) #[] #[.pointer (some ⟨k,0,none⟩)]] w' fun e w''=>e=.returned (fmV (Lev.fm true level r (Lev.mid lo hi) hi a b (c+v)))/\Below w'.heap.size w' w'') :=
  fun w' k'=>ihr.out pr Fr _ hi a b (c+v) level k w' (hh.r.later k') hB.2.2.2.2 hg.2.2.2 (a0a k' hc) (by omega) (by omega) (by omega) hm.2 h5 h6
 rw[c4c hp hw hf];have hcv:IntKind.i64.wrap (c+v)=c+v:=a0i (by omega) (by omega);have c0:=hh.c0;have c3:=hh.c3;have c4:=hh.c4;clear tp tl tr ht gl t0 h2' hh hB hg h2 h ihl ihr hc hv hv0;generalize Lev.fm true level l lo (Lev.mid lo hi) a b (c+v)=ol at *;generalize Lev.fm true level r (Lev.mid lo hi) hi a b (c+v)=or at *
 go_enter Tryz.func217,Tryz.ntmps217
 go_wp2_with fail
 refine (a0N _ _ _ _ _).mono ?_;rintro e w1 ⟨rfl,hb⟩;rw[hp];have ⟨q0,q1,q2,q3,hs,hBw⟩:=boxes hb;have d0:=a0a hBw c0;have d3:=a0a hBw c3;have d4:=a0a hBw c4;have HB:=a0b hBw;clear hb hBw c0 c3 c4
 go_wp2_with fail
 refine (AK.out _ HB.out).mono ?_;rintro e w2 ⟨rfl,hb⟩;rw[hw];have r0:w2.cell? ⟨w.heap.size,0,none⟩=some (.int .i64 lo):=a0a hb q0;have r1:w2.cell? ⟨w.heap.size,1,none⟩=some (.int .i64 hi):=a0a hb q1;have r2:w2.cell? ⟨w.heap.size+1,0,none⟩=some (.int .i64 a):=a0a hb q2;have r3:w2.cell? ⟨w.heap.size+1,1,none⟩=some (.int .i64 b):=a0a hb q3;have e0:=a0a hb d0;have e3:=a0a hb d3;have e4:=a0a hb d4;have HC:=a0b (a0j HB.out hb (zq _));clear HB hb q0 q1 q2 q3 hs d0 d3 d4 AK
 go_wp2_with fail
 refine (HFL.out _ HC.out).mono ?_;rintro e w2' ⟨rfl,rfl⟩;rw[hf];clear HFL
 go_wp2_with fail
 refine (a4c _ _ _ (by omega) (by omega) (by omega)).mono ?_;rintro e w3 ⟨rfl,hb⟩;have hX:Below w2'.heap.size w2' ((w3.alloc (.cells #[.int .i64 lo,.int .i64 (Lev.mid lo hi)] 60)).alloc (.cells #[.int .i64 (Lev.mid lo hi),.int .i64 hi] 60)):=(hb.alloc hb.size _).alloc (by have:=hb.size;simp;omega) _
 have hM:FS ((w3.alloc (.cells #[.int .i64 lo,.int .i64 (Lev.mid lo hi)] 60)).alloc (.cells #[.int .i64 (Lev.mid lo hi),.int .i64 hi] 60)) ((w3.alloc (.cells #[.int .i64 lo,.int .i64 (Lev.mid lo hi)] 60)).alloc (.cells #[.int .i64 (Lev.mid lo hi),.int .i64 hi] 60)) bk (w.heap.size+1) w3.heap.size v lo hi a b pl pr :=
  ⟨a0a hX e0,a0a hX e3,a0a hX e4,a0a hX r2,a0a hX r3,by simp,by simp,by simp,by simp,Below.refl _ _⟩
 have HX:=a0b (a0j HC.out hX (zq _));clear HC hX hb r0 r1 r2 r3 e0 e3 e4
 go_upto_region 6 with fail
 generalize (World.alloc _ (.cells #[.int .i64 (Lev.mid lo hi),.int .i64 hi] 60))=X at hM HX ⊢;generalize w3.heap.size=M at hM ⊢
 cases ol with
 |some y =>
  simp only[fmV] at I1 ⊢
  go_region_held3 (fun w'=>w'.cell? ⟨bk,0,none⟩=some (.int .i64 v)/\w'.cell? ⟨bk,3,none⟩=some (.pointer pl)/\w'.cell? ⟨bk,4,none⟩=some (.pointer pr)/\w'.cell? ⟨w.heap.size+1,0,none⟩=some (.int .i64 a)/\w'.cell? ⟨w.heap.size+1,1,none⟩=some (.int .i64 b)/\w'.cell? ⟨M,0,none⟩=some (.int .i64 lo)/\w'.cell? ⟨M,1,none⟩=some (.int .i64 (Lev.mid lo hi))/\w'.cell? ⟨M+1,0,none⟩=some (.int .i64 (Lev.mid lo hi))/\w'.cell? ⟨M+1,1,none⟩=some (.int .i64 hi)/\Below X.heap.size X w')
   (first
    |exact FS.later hM (a0q _)
    |(go_split_ands;exact FS.later hM (a0j (by assumption) hbf (zq _))))
   (first
    |(go_at_call 217;go_split_ands;refine (I1.out _ (a0j HX.out (by assumption) (zq _))).mono ?_;rintro e w4 ⟨rfl,hbf⟩))
  have HF:=a0b (a0j HX.out (by go_split_ands;assumption:Below X.heap.size X w4) (zq _));clear hM HX I1 I2
  go_wp2_with fail
  go_ret2;exact⟨rfl,HF.out⟩
 |none =>
  simp only[fmV] at I1 ⊢
  go_region_held3 (fun w'=>w'.cell? ⟨bk,0,none⟩=some (.int .i64 v)/\w'.cell? ⟨bk,3,none⟩=some (.pointer pl)/\w'.cell? ⟨bk,4,none⟩=some (.pointer pr)/\w'.cell? ⟨w.heap.size+1,0,none⟩=some (.int .i64 a)/\w'.cell? ⟨w.heap.size+1,1,none⟩=some (.int .i64 b)/\w'.cell? ⟨M,0,none⟩=some (.int .i64 lo)/\w'.cell? ⟨M,1,none⟩=some (.int .i64 (Lev.mid lo hi))/\w'.cell? ⟨M+1,0,none⟩=some (.int .i64 (Lev.mid lo hi))/\w'.cell? ⟨M+1,1,none⟩=some (.int .i64 hi)/\Below X.heap.size X w')
   (first
    |exact FS.later hM (a0q _)
    |(go_split_ands;exact FS.later hM (a0j (by assumption) hbf (zq _))))
   (first
    |(go_at_call 217;go_split_ands;refine (I1.out _ (a0j HX.out (by assumption) (zq _))).mono ?_;rintro e w4 ⟨rfl,hbf⟩))
  have hN:FS X w4 bk (w.heap.size+1) M v lo hi a b pl pr:=by assumption
  clear hM I1
  go_upto_region 9 with fail
  cases or with
  |some y =>
   simp only[fmV] at I2 ⊢
   go_region_held3 (fun w'=>w'.cell? ⟨bk,0,none⟩=some (.int .i64 v)/\w'.cell? ⟨bk,3,none⟩=some (.pointer pl)/\w'.cell? ⟨bk,4,none⟩=some (.pointer pr)/\w'.cell? ⟨w.heap.size+1,0,none⟩=some (.int .i64 a)/\w'.cell? ⟨w.heap.size+1,1,none⟩=some (.int .i64 b)/\w'.cell? ⟨M,0,none⟩=some (.int .i64 lo)/\w'.cell? ⟨M,1,none⟩=some (.int .i64 (Lev.mid lo hi))/\w'.cell? ⟨M+1,0,none⟩=some (.int .i64 (Lev.mid lo hi))/\w'.cell? ⟨M+1,1,none⟩=some (.int .i64 hi)/\Below X.heap.size X w')
    (first
     |exact FS.later hN (a0q _)
     |(go_split_ands;exact FS.later hN (a0j (a0q _) hbf (zq _))))
    (first
     |(go_at_call 217;go_split_ands;refine (I2.out _ (a0j HX.out (by assumption) (zq _))).mono ?_;rintro e w5 ⟨rfl,hbf⟩))
   have HF:=a0b (a0j HX.out (by go_split_ands;assumption:Below X.heap.size X w5) (zq _));clear hN HX I2
   go_wp2_with fail
   go_ret2;exact⟨rfl,HF.out⟩
  |none =>
   simp only[fmV] at I2 ⊢
   go_region_held3 (fun w'=>w'.cell? ⟨bk,0,none⟩=some (.int .i64 v)/\w'.cell? ⟨bk,3,none⟩=some (.pointer pl)/\w'.cell? ⟨bk,4,none⟩=some (.pointer pr)/\w'.cell? ⟨w.heap.size+1,0,none⟩=some (.int .i64 a)/\w'.cell? ⟨w.heap.size+1,1,none⟩=some (.int .i64 b)/\w'.cell? ⟨M,0,none⟩=some (.int .i64 lo)/\w'.cell? ⟨M,1,none⟩=some (.int .i64 (Lev.mid lo hi))/\w'.cell? ⟨M+1,0,none⟩=some (.int .i64 (Lev.mid lo hi))/\w'.cell? ⟨M+1,1,none⟩=some (.int .i64 hi)/\Below X.heap.size X w')
    (first
     |exact FS.later hN (a0q _)
     |(go_split_ands;exact FS.later hN (a0j (a0q _) hbf (zq _))))
    (first
     |(go_at_call 217;go_split_ands;refine (I2.out _ (a0j HX.out (by assumption) (zq _))).mono ?_;rintro e w5 ⟨rfl,hbf⟩))
   have HF:=a0b (a0j HX.out (by go_split_ands;assumption:Below X.heap.size X w5) (zq _));clear hN HX I2
   go_wp2_with fail
   go_ret2;exact⟨rfl,HF.out⟩
theorem a9w(v:Int)(l r:Lev.T)(ihl:Hid (b1k false 215 l))(ihr:Hid (b1k false 215 r))(u:Option Addr)(F:List Nat)(lo hi a b c level:Int)(k:Nat)(w:World)(h:a2d w (.node v l r) (.pointer u) F)(hB:LB (.node v l r))(hg:Lev.Good (.node v l r) lo hi)(hc:w.cell? ⟨k,0,none⟩=some (.int .i64 level))(h1:0<=c)(h2:c+Lev.top (.node v l r)<=100000000)(h3:0<=lo)(h4:lo<hi)(h5:hi<=2000000)(h6:a<b)
  (hp:Lev.apart lo hi a b=false) (hw:Lev.a2X false level (.node v l r) c=true) (hf:Lev.flat (.node v l r)=false):
  Calls Tryz.prog 217 #[.pointer u,.agg #[.int .i64 lo,.int .i64 hi],.agg #[.int .i64 a,.int .i64 b],.int .i64 c,.func (.func 215) #[] #[.pointer (some ⟨k,0,none⟩)]] w fun e w'=>e=.returned (fmV (Lev.fm false level (.node v l r) lo hi a b c))/\Below w.heap.size w w':=by
 have tp:=hB.top;have tl:=hB.2.2.2.1.top;have tr:=hB.2.2.2.2.top;have hv:=hB.1;have hv0:=hg.1;have ht:Lev.top (.node v l r)=v+max (Lev.top l) (Lev.top r):=rfl;have gl:=Lev.a2O l lo (Lev.mid lo hi) 0 hg.2.2.1
 have t0:0<=Lev.top (.node v l r):=by
  obtain⟨_,x,_,_,e⟩:=Lev.a8H (.node v l r) lo hi h4 hg;have:=Lev.a2O (.node v l r) lo hi x hg;omega
 have h2':2<=hi-lo:=by
  rcases hg.2.1 with ⟨e1,e2⟩|h2
  ·have hf':(Lev.isNil l && Lev.isNil r)=false:=hf;simp[e1,e2] at hf'
  ·exact h2
 have hm:lo<Lev.mid lo hi/\Lev.mid lo hi<hi:=by unfold Lev.mid;omega
 have AK:=a0b (fun w' k'=>c7c (.node v l r) u F c level k w' (a2d.later h k') hB (a0a k' hc) (by omega) (by omega));have HFL:=a0b (fun (w':World) (k':Below w.heap.size w w')=>a5E w' (a2d.later h k'));obtain⟨bk,pl,pr,Fl,Fr,rfl,rfl,hh⟩:=a7G h
 have I1:Hid (∀ w',Below w.heap.size w w'->Calls Tryz.prog 217 #[.pointer pl,.agg #[.int .i64 lo,.int .i64 (Lev.mid lo hi)],.agg #[.int .i64 a,.int .i64 b],.int .i64 (c+v),.func (.func 215) #[] #[.pointer (some ⟨k,0,none⟩)]] w' fun e w''=>e=.returned (fmV (Lev.fm false level l lo (Lev.mid lo hi) a b (c+v)))/\Below w'.heap.size w' w'') :=
  fun w' k'=>ihl.out pl Fl lo _ a b (c+v) level k w' (hh.l.later k') hB.2.2.2.1 hg.2.2.1 (a0a k' hc) (by omega) (by omega) h3 hm.1 (by omega) h6
 have I2:Hid (∀ w',Below w.heap.size w w'->Calls Tryz.prog 217 #[.pointer pr,.agg #[.int .i64 (Lev.mid lo hi),.int .i64 hi],.agg #[.int .i64 a,.int .i64 b],.int .i64 (c+v),.func (.func 215) #[] #[.pointer (some ⟨k,0,none⟩)]] w' fun e w''=>e=.returned (fmV (Lev.fm false level r (Lev.mid lo hi) hi a b (c+v)))/\Below w'.heap.size w' w'') :=
  fun w' k'=>ihr.out pr Fr _ hi a b (c+v) level k w' (hh.r.later k') hB.2.2.2.2 hg.2.2.2 (a0a k' hc) (by omega) (by omega) (by omega) hm.2 h5 h6
 rw[c4c hp hw hf];have hcv:IntKind.i64.wrap (c+v)=c+v:=a0i (by omega) (by omega);have c0:=hh.c0;have c3:=hh.c3;have c4:=hh.c4;clear tp tl tr ht gl t0 h2' hh hB hg h2 h ihl ihr hc hv hv0;generalize Lev.fm false level l lo (Lev.mid lo hi) a b (c+v)=ol at *;generalize Lev.fm false level r (Lev.mid lo hi) hi a b (c+v)=or at *
 go_enter Tryz.func217,Tryz.ntmps217
 go_wp2_with fail
 refine (a0N _ _ _ _ _).mono ?_;rintro e w1 ⟨rfl,hb⟩;rw[hp];have ⟨q0,q1,q2,q3,hs,hBw⟩:=boxes hb;have d0:=a0a hBw c0;have d3:=a0a hBw c3;have d4:=a0a hBw c4;have HB:=a0b hBw;clear hb hBw c0 c3 c4
 go_wp2_with fail
 refine (AK.out _ HB.out).mono ?_;rintro e w2 ⟨rfl,hb⟩;rw[hw];have r0:w2.cell? ⟨w.heap.size,0,none⟩=some (.int .i64 lo):=a0a hb q0;have r1:w2.cell? ⟨w.heap.size,1,none⟩=some (.int .i64 hi):=a0a hb q1;have r2:w2.cell? ⟨w.heap.size+1,0,none⟩=some (.int .i64 a):=a0a hb q2;have r3:w2.cell? ⟨w.heap.size+1,1,none⟩=some (.int .i64 b):=a0a hb q3;have e0:=a0a hb d0;have e3:=a0a hb d3;have e4:=a0a hb d4;have HC:=a0b (a0j HB.out hb (zq _));clear HB hb q0 q1 q2 q3 hs d0 d3 d4 AK
 go_wp2_with fail
 refine (HFL.out _ HC.out).mono ?_;rintro e w2' ⟨rfl,rfl⟩;rw[hf];clear HFL
 go_wp2_with fail
 refine (a4c _ _ _ (by omega) (by omega) (by omega)).mono ?_;rintro e w3 ⟨rfl,hb⟩;have hX:Below w2'.heap.size w2' ((w3.alloc (.cells #[.int .i64 lo,.int .i64 (Lev.mid lo hi)] 60)).alloc (.cells #[.int .i64 (Lev.mid lo hi),.int .i64 hi] 60)):=(hb.alloc hb.size _).alloc (by have:=hb.size;simp;omega) _
 have hM:FS ((w3.alloc (.cells #[.int .i64 lo,.int .i64 (Lev.mid lo hi)] 60)).alloc (.cells #[.int .i64 (Lev.mid lo hi),.int .i64 hi] 60)) ((w3.alloc (.cells #[.int .i64 lo,.int .i64 (Lev.mid lo hi)] 60)).alloc (.cells #[.int .i64 (Lev.mid lo hi),.int .i64 hi] 60)) bk (w.heap.size+1) w3.heap.size v lo hi a b pl pr :=
  ⟨a0a hX e0,a0a hX e3,a0a hX e4,a0a hX r2,a0a hX r3,by simp,by simp,by simp,by simp,Below.refl _ _⟩
 have HX:=a0b (a0j HC.out hX (zq _));clear HC hX hb r0 r1 r2 r3 e0 e3 e4
 go_upto_region 6 with fail
 generalize (World.alloc _ (.cells #[.int .i64 (Lev.mid lo hi),.int .i64 hi] 60))=X at hM HX ⊢;generalize w3.heap.size=M at hM ⊢
 cases ol with
 |some y =>
  simp only[fmV] at I1 ⊢
  go_region_held3 (fun w'=>w'.cell? ⟨bk,0,none⟩=some (.int .i64 v)/\w'.cell? ⟨bk,3,none⟩=some (.pointer pl)/\w'.cell? ⟨bk,4,none⟩=some (.pointer pr)/\w'.cell? ⟨w.heap.size+1,0,none⟩=some (.int .i64 a)/\w'.cell? ⟨w.heap.size+1,1,none⟩=some (.int .i64 b)/\w'.cell? ⟨M,0,none⟩=some (.int .i64 lo)/\w'.cell? ⟨M,1,none⟩=some (.int .i64 (Lev.mid lo hi))/\w'.cell? ⟨M+1,0,none⟩=some (.int .i64 (Lev.mid lo hi))/\w'.cell? ⟨M+1,1,none⟩=some (.int .i64 hi)/\Below X.heap.size X w')
   (first
    |exact FS.later hM (a0q _)
    |(go_split_ands;exact FS.later hM (a0j (by assumption) hbf (zq _))))
   (first
    |(go_at_call 217;go_split_ands;refine (I1.out _ (a0j HX.out (by assumption) (zq _))).mono ?_;rintro e w4 ⟨rfl,hbf⟩))
  have HF:=a0b (a0j HX.out (by go_split_ands;assumption:Below X.heap.size X w4) (zq _));clear hM HX I1 I2
  go_wp2_with fail
  go_ret2;exact⟨rfl,HF.out⟩
 |none =>
  simp only[fmV] at I1 ⊢
  go_region_held3 (fun w'=>w'.cell? ⟨bk,0,none⟩=some (.int .i64 v)/\w'.cell? ⟨bk,3,none⟩=some (.pointer pl)/\w'.cell? ⟨bk,4,none⟩=some (.pointer pr)/\w'.cell? ⟨w.heap.size+1,0,none⟩=some (.int .i64 a)/\w'.cell? ⟨w.heap.size+1,1,none⟩=some (.int .i64 b)/\w'.cell? ⟨M,0,none⟩=some (.int .i64 lo)/\w'.cell? ⟨M,1,none⟩=some (.int .i64 (Lev.mid lo hi))/\w'.cell? ⟨M+1,0,none⟩=some (.int .i64 (Lev.mid lo hi))/\w'.cell? ⟨M+1,1,none⟩=some (.int .i64 hi)/\Below X.heap.size X w')
   (first
    |exact FS.later hM (a0q _)
    |(go_split_ands;exact FS.later hM (a0j (by assumption) hbf (zq _))))
   (first
    |(go_at_call 217;go_split_ands;refine (I1.out _ (a0j HX.out (by assumption) (zq _))).mono ?_;rintro e w4 ⟨rfl,hbf⟩))
  have hN:FS X w4 bk (w.heap.size+1) M v lo hi a b pl pr:=by assumption
  clear hM I1
  go_upto_region 9 with fail
  cases or with
  |some y =>
   simp only[fmV] at I2 ⊢
   go_region_held3 (fun w'=>w'.cell? ⟨bk,0,none⟩=some (.int .i64 v)/\w'.cell? ⟨bk,3,none⟩=some (.pointer pl)/\w'.cell? ⟨bk,4,none⟩=some (.pointer pr)/\w'.cell? ⟨w.heap.size+1,0,none⟩=some (.int .i64 a)/\w'.cell? ⟨w.heap.size+1,1,none⟩=some (.int .i64 b)/\w'.cell? ⟨M,0,none⟩=some (.int .i64 lo)/\w'.cell? ⟨M,1,none⟩=some (.int .i64 (Lev.mid lo hi))/\w'.cell? ⟨M+1,0,none⟩=some (.int .i64 (Lev.mid lo hi))/\w'.cell? ⟨M+1,1,none⟩=some (.int .i64 hi)/\Below X.heap.size X w')
    (first
     |exact FS.later hN (a0q _)
     |(go_split_ands;exact FS.later hN (a0j (a0q _) hbf (zq _))))
    (first
     |(go_at_call 217;go_split_ands;refine (I2.out _ (a0j HX.out (by assumption) (zq _))).mono ?_;rintro e w5 ⟨rfl,hbf⟩))
   have HF:=a0b (a0j HX.out (by go_split_ands;assumption:Below X.heap.size X w5) (zq _));clear hN HX I2
   go_wp2_with fail
   go_ret2;exact⟨rfl,HF.out⟩
  |none =>
   simp only[fmV] at I2 ⊢
   go_region_held3 (fun w'=>w'.cell? ⟨bk,0,none⟩=some (.int .i64 v)/\w'.cell? ⟨bk,3,none⟩=some (.pointer pl)/\w'.cell? ⟨bk,4,none⟩=some (.pointer pr)/\w'.cell? ⟨w.heap.size+1,0,none⟩=some (.int .i64 a)/\w'.cell? ⟨w.heap.size+1,1,none⟩=some (.int .i64 b)/\w'.cell? ⟨M,0,none⟩=some (.int .i64 lo)/\w'.cell? ⟨M,1,none⟩=some (.int .i64 (Lev.mid lo hi))/\w'.cell? ⟨M+1,0,none⟩=some (.int .i64 (Lev.mid lo hi))/\w'.cell? ⟨M+1,1,none⟩=some (.int .i64 hi)/\Below X.heap.size X w')
    (first
     |exact FS.later hN (a0q _)
     |(go_split_ands;exact FS.later hN (a0j (a0q _) hbf (zq _))))
    (first
     |(go_at_call 217;go_split_ands;refine (I2.out _ (a0j HX.out (by assumption) (zq _))).mono ?_;rintro e w5 ⟨rfl,hbf⟩))
   have HF:=a0b (a0j HX.out (by go_split_ands;assumption:Below X.heap.size X w5) (zq _));clear hN HX I2
   go_wp2_with fail
   go_ret2;exact⟨rfl,HF.out⟩
theorem c5j:∀ t:Lev.T,b1k true 213 t:=by
 intro t
 induction t with
 |nil =>
  intro u F lo hi a b c level k w h hB hg hc h1 h2 h3 h4 h5 h6;simp only[Lev.top] at h2
  cases hp:Lev.apart lo hi a b
  ·cases hw:Lev.a2X true level .nil c
   ·have e:Lev.fm true level .nil lo hi a b c=none:=by simp[Lev.fm,hw]
    rw[e];exact a5g .nil u F lo hi a b c level k w h hB hc (by omega) (by omega) hp hw
   ·have e:Lev.fm true level .nil lo hi a b c=some (max lo a):=by simp[Lev.fm,hw,hp]
    rw[e];exact a5h .nil u F lo hi a b c level k w h hB hc (by omega) (by omega) hp hw rfl
  ·have e:Lev.fm true level .nil lo hi a b c=none:=by simp[Lev.fm,hp]
   rw[e];exact a4t true u lo hi a b c k w hp
 |node v l r ihl ihr =>
  intro u F lo hi a b c level k w h hB hg hc h1 h2 h3 h4 h5 h6
  have t0:0<=Lev.top (.node v l r):=by
   obtain⟨_,x,_,_,e⟩:=Lev.a8H (.node v l r) lo hi h4 hg;have:=Lev.a2O (.node v l r) lo hi x hg;omega
  cases hp:Lev.apart lo hi a b
  ·cases hw:Lev.a2X true level (.node v l r) c
   ·have e:Lev.fm true level (.node v l r) lo hi a b c=none:=by simp[Lev.fm,hw]
    rw[e];exact a5g _ u F lo hi a b c level k w h hB hc (by omega) (by omega) hp hw
   ·cases hf:Lev.flat (.node v l r)
    ·exact b0j v l r ihl ihr u F lo hi a b c level k w h hB hg hc h1 h2 h3 h4 h5 h6 hp hw hf
    ·have hf':(Lev.isNil l && Lev.isNil r)=true:=hf;have e:Lev.fm true level (.node v l r) lo hi a b c=some (max lo a):=by rw[Lev.fm];simp only[hw,hp,hf',Bool.false_or,Bool.not_true,Bool.false_eq_true,if_false,if_true]
     rw[e];exact a5h _ u F lo hi a b c level k w h hB hc (by omega) (by omega) hp hw hf
  ·have e:Lev.fm true level (.node v l r) lo hi a b c=none:=by simp[Lev.fm,hp]
   rw[e];exact a4t true u lo hi a b c k w hp
theorem c5k:∀ t:Lev.T,b1k false 215 t:=by
 intro t
 induction t with
 |nil =>
  intro u F lo hi a b c level k w h hB hg hc h1 h2 h3 h4 h5 h6;simp only[Lev.top] at h2
  cases hp:Lev.apart lo hi a b
  ·cases hw:Lev.a2X false level .nil c
   ·have e:Lev.fm false level .nil lo hi a b c=none:=by simp[Lev.fm,hw]
    rw[e];exact a4F .nil u F lo hi a b c level k w h hB hc (by omega) (by omega) hp hw
   ·have e:Lev.fm false level .nil lo hi a b c=some (max lo a):=by simp[Lev.fm,hw,hp]
    rw[e];exact a4G .nil u F lo hi a b c level k w h hB hc (by omega) (by omega) hp hw rfl
  ·have e:Lev.fm false level .nil lo hi a b c=none:=by simp[Lev.fm,hp]
   rw[e];exact a4t false u lo hi a b c k w hp
 |node v l r ihl ihr =>
  intro u F lo hi a b c level k w h hB hg hc h1 h2 h3 h4 h5 h6
  have t0:0<=Lev.top (.node v l r):=by
   obtain⟨_,x,_,_,e⟩:=Lev.a8H (.node v l r) lo hi h4 hg;have:=Lev.a2O (.node v l r) lo hi x hg;omega
  cases hp:Lev.apart lo hi a b
  ·cases hw:Lev.a2X false level (.node v l r) c
   ·have e:Lev.fm false level (.node v l r) lo hi a b c=none:=by simp[Lev.fm,hw]
    rw[e];exact a4F _ u F lo hi a b c level k w h hB hc (by omega) (by omega) hp hw
   ·cases hf:Lev.flat (.node v l r)
    ·exact a9w v l r ihl ihr u F lo hi a b c level k w h hB hg hc h1 h2 h3 h4 h5 h6 hp hw hf
    ·have hf':(Lev.isNil l && Lev.isNil r)=true:=hf;have e:Lev.fm false level (.node v l r) lo hi a b c=some (max lo a):=by rw[Lev.fm];simp only[hw,hp,hf',Bool.false_or,Bool.not_true,Bool.false_eq_true,if_false,if_true]
     rw[e];exact a4G _ u F lo hi a b c level k w h hB hc (by omega) (by omega) hp hw hf
  ·have e:Lev.fm false level (.node v l r) lo hi a b c=none:=by simp[Lev.fm,hp]
   rw[e];exact a4t false u lo hi a b c k w hp
def a4X(f:Int->Int)(long level s:Int):Prop:=∀ x,s<=x->x<s+long->f x<=level
def a8j(f:Int->Int)(a b long level:Int):Option Int->Prop
 |none=>∀ s,a<=s->s+long<=b->¬ a4X f long level s
 |some s=>a<=s/\s+long<=b/\a4X f long level s/\∀ s',a<=s'->s'<s->¬ a4X f long level s'
theorem c4P(h:Lev.a6o (fun z=>level<f z) 0 1048320 st (st+long) none)(h0:0<=st)(h1:st+long<=1048320):a4X f long level st:=by
 intro x k1 k2;have:=h x (by omega) (by omega) k1 k2;have this:¬ level<f x:=this;omega
theorem c6e{b:Int}(h:∀ s',a<=s'->s'<st->¬ a4X f long level s')(h5:level<f y5)(g:Lev.a6o (fun z=>f z<=level) 0 1048320 y5 b none)(k1:st<=y5)(k2:y5<st+long)(k3:0<=y5)(k4:b<=1048320):a8j f a b long level none:=by
 intro s' i1 i2 hr
 by_cases c:s'<st
 ·exact h s' i1 c hr
 ·by_cases d:s'<=y5
  ·have:=hr y5 d (by omega);omega
  ·have e:=hr s' (by omega) (by omega);exact g s' (by omega) (by omega) (by omega) (by omega) e
theorem c4U{b:Int}(h:∀ s',a<=s'->s'<st->¬ a4X f long level s')(h5:level<f y5)(g:Lev.a6o (fun z=>f z<=level) 0 1048320 y5 b (some y6))(k9:0<=a)(k0:a<=st)(k1:st<=y5)(k2:y5<st+long):a<=y6/\y6<=1048320/\∀ s',a<=s'->s'<y6->¬ a4X f long level s':=by
 obtain⟨g1,g2,g3,g4,g5,g6⟩:=g;refine⟨by omega,by omega,fun s' i1 i2 hr=>?_⟩
 by_cases c:s'<st
 ·exact h s' i1 c hr
 ·by_cases d:s'<=y5
  ·have:=hr y5 d (by omega);omega
  ·have e:=hr s' (by omega) (by omega);exact g6 s' (by omega) i2 (by omega) e
theorem c4V{b:Int}(h5:level<f y5)(g:Lev.a6o (fun z=>f z<=level) 0 1048320 y5 b (some y6)):y5<y6/\y6<1048320:=by
 obtain⟨g1,g2,g3,g4,g5,g6⟩:=g;have g5:f y6<=level:=g5
 by_cases e:y5=y6
 ·subst e;omega
 ·omega
theorem c3K(t:Lev.T)(tb o:Nat)(u:Option Addr)(F:List Nat)(a b long level:Int)(w:World)(c:w.cell? ⟨tb,o,none⟩=some (.pointer u))(h:a2d w t (.pointer u) F)(hB:LB t)(hg:Lev.Good t 0 1048320)(h0:0<=a)(h1:a<b)(h2:b<=1048320)(h3:1<=long)(h4:long<=1048320):
  Calls Tryz.prog 154 #[.pointer (some ⟨tb,o,none⟩),.agg #[.int .i64 a,.int .i64 b],.int .i64 long,.int .i64 level] w fun e w'=>∃ r:Option Int,e=.returned (fmV r)/\a8j (Lev.lev t 0 1048320) a b long level r/\Below w.heap.size w w':=by
 have tp:=hB.top
 have C1:Hid (∀ (w':World) (x y:Int),Below w.heap.size w w'->w'.cell? ⟨w.heap.size+1,0,none⟩=some (.int .i64 level)->x<y->Calls Tryz.prog 217 #[.pointer u,.agg #[.int .i64 0,.int .i64 1048320],.agg #[.int .i64 x,.int .i64 y],.int .i64 0,.func (.func 213) #[] #[.pointer (some ⟨w.heap.size+1,0,none⟩)]] w' fun e w''=>e=.returned (fmV (Lev.fm true level t 0 1048320 x y 0))/\Below w'.heap.size w' w''):=by
  intro w' x y k1 k2 k3;exact c5j t u F 0 1048320 x y 0 level _ w' (h.later k1) hB hg k2 (by omega) (by omega) (by omega) (by omega) (by omega) k3
 have C2:Hid (∀ (w':World) (x y:Int),Below w.heap.size w w'->w'.cell? ⟨w.heap.size+1,0,none⟩=some (.int .i64 level)->x<y->Calls Tryz.prog 217 #[.pointer u,.agg #[.int .i64 0,.int .i64 1048320],.agg #[.int .i64 x,.int .i64 y],.int .i64 0,.func (.func 215) #[] #[.pointer (some ⟨w.heap.size+1,0,none⟩)]] w' fun e w''=>e=.returned (fmV (Lev.fm false level t 0 1048320 x y 0))/\Below w'.heap.size w' w''):=by
  intro w' x y k1 k2 k3;exact c5k t u F 0 1048320 x y 0 level _ w' (h.later k1) hB hg k2 (by omega) (by omega) (by omega) (by omega) (by omega) k3
 have D1:Hid (∀ x y,x<y->Lev.a6o (fun z=>level<Lev.lev t 0 1048320 z) 0 1048320 x y (Lev.fm true level t 0 1048320 x y 0)):=by
  intro x y k3;have:=Lev.c6r true level t 0 1048320 x y 0 (by omega) k3 hg
  simpa only[Lev.want,if_true,Int.zero_add] using this
 have D2:Hid (∀ x y,x<y->Lev.a6o (fun z=>Lev.lev t 0 1048320 z<=level) 0 1048320 x y (Lev.fm false level t 0 1048320 x y 0)):=by
  intro x y k3;have:=Lev.c6r false level t 0 1048320 x y 0 (by omega) k3 hg
  simpa only[Lev.want,Bool.false_eq_true,if_false,Int.zero_add] using this
 clear h hB hg tp
 go_enter Tryz.func154,Tryz.ntmps154
 go_wp2_with fail
 have hX:Below w.heap.size w ((w.alloc (.cells #[.int .i64 a,.int .i64 b] 60)).alloc (.cells #[.int .i64 level] 3)):=((zr _ _).alloc (zq _) _).alloc (by simp) _;have x1:((w.alloc (.cells #[.int .i64 a,.int .i64 b] 60)).alloc (.cells #[.int .i64 level] 3)).cell? ⟨w.heap.size,1,none⟩=some (.int .i64 b):=by simp
 have x2:((w.alloc (.cells #[.int .i64 a,.int .i64 b] 60)).alloc (.cells #[.int .i64 level] 3)).cell? ⟨w.heap.size+1,0,none⟩=some (.int .i64 level):=by simp
 have xc:=a0a hX c;have HX:=a0b hX;clear hX c;generalize (World.alloc _ (.cells #[.int .i64 level] 3))=X at x1 x2 xc HX ⊢
 go_loopw [12,13,14] (fun s _ _ wx=>∃ st:Int,s=.int .i64 st/\a<=st/\st<=1048320/\(∀ s',a<=s'->s'<st->¬ a4X (Lev.lev t 0 1048320) long level s')/\Below X.heap.size X wx) (fun s _ _ _=>(1048321-intOf s).toNat)
 case atStart=>exact⟨a,rfl,by omega,by omega,fun s' _ _=>by omega,Below.refl _ _⟩
 case round =>
  obtain⟨st,rfl,hs1,hs2,hs3,hw⟩:=hrel;have HS:=a0b hs3;have y1:=a0a hw x1;have y2:=a0a hw x2;have yc:=a0a hw xc;clear hs3
  by_cases hlt:st+long<=b
  ·have hwr:IntKind.i64.wrap (st+long)=st+long:=a0i (by omega) (by omega);have G1:=a0b (D1.out st (st+long) (by omega));have P1:=a0b (fun w' k1 k2=>C1.out w' st (st+long) k1 k2 (by omega))
   cases e1:Lev.fm true level t 0 1048320 st (st+long) 0 with
   |none =>
    rw[e1] at G1;simp only[e1,fmV] at P1;clear e1
    go_upto_region 5 with fail
    go_region_held3 (fun w'=>w'.cell? ⟨tb,o,none⟩=some (.pointer u)/\w'.cell? ⟨w.heap.size,1,none⟩=some (.int .i64 b)/\w'.cell? ⟨w.heap.size+1,0,none⟩=some (.int .i64 level)/\Below X.heap.size X w')
     (first
      |exact⟨yc,y1,y2,a0j hw (a0q _) (zq _)⟩
      |(go_split_ands;exact⟨a0a hbf (by assumption),a0a hbf (by assumption),a0a hbf (by assumption),a0j (by assumption) hbf (zq _)⟩))
     (first
      |(go_at_call 212;go_split_ands;refine (a2N _).mono ?_;rintro e w4 ⟨rfl,hbf⟩)
      |(go_at_call 217;go_split_ands;refine (P1.out _ (a0j HX.out (by assumption) (zq _)) (by assumption)).mono ?_;rintro e w5 ⟨rfl,hbf⟩))
    have HF:=a0b (a0j HX.out (by go_split_ands;assumption:Below X.heap.size X w5) (zq _));clear P1 C1 C2 D2 D1 HX
    go_wp2_with fail
    go_ret2;exact⟨some st,rfl,⟨hs1,hlt,c4P G1.out (by omega) (by omega),HS.out⟩,HF.out⟩
   |some y5 =>
    rw[e1] at G1;simp only[e1,fmV] at P1;clear e1;obtain⟨_,g2,g3,g4,g5,g6⟩:=G1.out;have g5':level<Lev.lev t 0 1048320 y5:=g5;have HG5:=a0b g5';clear g5 g5' g6 G1;have G2:=a0b (D2.out y5 b (by omega));have P2:=a0b (fun w' k1 k2=>C2.out w' y5 b k1 k2 (by omega))
    go_upto_region 5 with fail
    go_region_held3 (fun w'=>w'.cell? ⟨tb,o,none⟩=some (.pointer u)/\w'.cell? ⟨w.heap.size,1,none⟩=some (.int .i64 b)/\w'.cell? ⟨w.heap.size+1,0,none⟩=some (.int .i64 level)/\Below X.heap.size X w')
     (first
      |exact⟨yc,y1,y2,a0j hw (a0q _) (zq _)⟩
      |(go_split_ands;exact⟨a0a hbf (by assumption),a0a hbf (by assumption),a0a hbf (by assumption),a0j (by assumption) hbf (zq _)⟩))
     (first
      |(go_at_call 212;go_split_ands;refine (a2N _).mono ?_;rintro e w4 ⟨rfl,hbf⟩)
      |(go_at_call 217;go_split_ands;refine (P1.out _ (a0j HX.out (by assumption) (zq _)) (by assumption)).mono ?_;rintro e w5 ⟨rfl,hbf⟩))
    have hz:Below X.heap.size X w5:=by go_split_ands;assumption
    have z1:=a0a hz x1;have z2:=a0a hz x2;have zc:=a0a hz xc;clear P1
    go_upto_region 8 with fail
    cases e2:Lev.fm false level t 0 1048320 y5 b 0 with
    |none =>
     rw[e2] at G2;simp only[e2,fmV] at P2;clear e2
     go_region_held3 (fun w'=>w'.cell? ⟨tb,o,none⟩=some (.pointer u)/\w'.cell? ⟨w.heap.size,1,none⟩=some (.int .i64 b)/\w'.cell? ⟨w.heap.size+1,0,none⟩=some (.int .i64 level)/\Below X.heap.size X w')
     (first
      |exact⟨zc,z1,z2,a0j hz (a0q _) (zq _)⟩
      |(go_split_ands;exact⟨a0a hbf (by assumption),a0a hbf (by assumption),a0a hbf (by assumption),a0j (by assumption) hbf (zq _)⟩))
     (first
      |(go_at_call 212;go_split_ands;refine (a2N _).mono ?_;rintro e w4 ⟨rfl,hbf⟩)
      |(go_at_call 217;go_split_ands;refine (P2.out _ (a0j HX.out (by assumption) (zq _)) (by assumption)).mono ?_;rintro e w6 ⟨rfl,hbf⟩))
     have HF:=a0b (a0j HX.out (by go_split_ands;assumption:Below X.heap.size X w6) (zq _));clear P2 C1 C2 D2 D1 HX
     go_wp2_with fail
     go_ret2;exact⟨none,rfl,c6e HS.out HG5.out G2.out g3 (by omega) (by omega) (by omega),HF.out⟩
    |some y6 =>
     rw[e2] at G2;simp only[e2,fmV] at P2;clear e2
     go_region_held3 (fun w'=>w'.cell? ⟨tb,o,none⟩=some (.pointer u)/\w'.cell? ⟨w.heap.size,1,none⟩=some (.int .i64 b)/\w'.cell? ⟨w.heap.size+1,0,none⟩=some (.int .i64 level)/\Below X.heap.size X w')
     (first
      |exact⟨zc,z1,z2,a0j hz (a0q _) (zq _)⟩
      |(go_split_ands;exact⟨a0a hbf (by assumption),a0a hbf (by assumption),a0a hbf (by assumption),a0j (by assumption) hbf (zq _)⟩))
     (first
      |(go_at_call 212;go_split_ands;refine (a2N _).mono ?_;rintro e w4 ⟨rfl,hbf⟩)
      |(go_at_call 217;go_split_ands;refine (P2.out _ (a0j HX.out (by assumption) (zq _)) (by assumption)).mono ?_;rintro e w6 ⟨rfl,hbf⟩))
     have hv:Below X.heap.size X w6:=by go_split_ands;assumption
     have HV:=a0b hv;clear P2 C1 C2 D2 D1 HX hv
     go_wp2_with fail
     go_roundw
     case rel=>have nx:=c4U HS.out HG5.out G2.out h0 hs1 g3 (by omega);exact⟨y6,rfl,nx.1,nx.2.1,nx.2.2,HV.out⟩
     case measure=>simp[intOf];have:=c4V HG5.out G2.out;omega
  ·go_wp2_with fail
   go_ret2;exact⟨none,rfl,fun s' k1 k2=>HS.out s' k1 (by omega),a0j HX.out hw (zq _)⟩
namespace Avl
structure It where
 f:Int
 t:Int
 n:Int
 v:Nat
inductive S where
 |nil:S
 |node (x:It) (l r:S):S
def isNil:S->Bool
 |.nil=>true
 |.node ..=>false
def left:S->S
 |.nil=>.nil
 |.node _ l _=>l
def right:S->S
 |.nil=>.nil
 |.node _ _ r=>r
def ht:S->Int
 |.nil=>0
 |.node _ l r=>1+max (ht l) (ht r)
def c4a(x:Int)(l r:S)(dl dr:Int):Int :=
 let m:=if isNil l then x else max x dl
 if isNil r then m else max m dr
def late:S->Int
 |.nil=>0
 |.node x l r=>c4a x.t l r (late l) (late r)
def size:S->Nat
 |.nil=>0
 |.node _ l r=>1+size l+size r
def a0w:S->List It
 |.nil=>[]
 |.node x l r=>a0w l++x :: a0w r
def side(f n:Int)(x:It):Int:=if f<x.f then -1 else if x.f<f then 1 else if n<x.n then -1 else if x.n<n then 1 else 0
def c4N:S->S
 |.node x (.node y a b) r=>.node y a (.node x b r)
 |t=>t
def c4O:S->S
 |.node x l (.node y a b)=>.node y (.node x l a) b
 |t=>t
def c4k(x:It)(l r:S):S:=c4N (.node x (if ht (left l)<ht (right l) then c4O l else l) r)
def c4j(x:It)(l r:S):S:=c4O (.node x l (if ht (right r)<ht (left r) then c4N r else r))
def bal(x:It)(l r:S):S:=if 1<ht l-ht r then c4k x l r else if ht l-ht r < -1 then c4j x l r else .node x l r
def put(x:It):S->S
 |.nil=>bal x .nil .nil
 |.node y l r=>if side x.f x.n y<0 then bal y (put x l) r else if 0<side x.f x.n y then bal y l (put x r) else bal { y with t:=x.t,v:=x.v } l r
def a8O:It->S->S->It
 |x,.nil,_=>x
 |_,.node y a b,_=>a8O y a b
def a5P:It->S->S->S
 |_,.nil,r=>r
 |x,.node y a b,r=>bal x (a5P y a b) r
def a5d(l:S):S->S
 |.nil=>l
 |.node y a b=>bal (a8O y a b) l (a5P y a b)
def drop(f n:Int):S->S
 |.nil=>.nil
 |.node y l r=>if side f n y<0 then bal y (drop f n l) r else if 0<side f n y then bal y l (drop f n r) else a5d l r
theorem a1a:∀ t:S,0<=ht t
 |.nil=>by simp[ht]
 |.node _ l r=>by have:=a1a l;have:=a1a r;simp only[ht];omega
theorem a2D:∀ t:S,ht t<=size t
 |.nil=>by simp[ht,size]
 |.node _ l r=>by have:=a2D l;have:=a2D r;simp only[ht,size];omega
theorem a5B{t:S}(h:0<ht t):∃ x l r,t=.node x l r:=by
 cases t with
 |nil=>simp[ht] at h
 |node x l r=>exact⟨x,l,r,rfl⟩
theorem b0M(t:S):a0w (c4N t)=a0w t:=by
 cases t with
 |nil=>rfl
 |node x l r=>cases l <;> simp[c4N,a0w]
theorem b0N(t:S):a0w (c4O t)=a0w t:=by
 cases t with
 |nil=>rfl
 |node x l r=>cases r <;> simp[c4O,a0w]
theorem a1G(x:It)(l r:S):a0w (bal x l r)=a0w l++x :: a0w r:=by
 unfold bal
 split
 ·unfold c4k;rw[b0M];split <;> simp[a0w,b0N]
 ·split
  ·unfold c4j;rw[b0N];split <;> simp[a0w,b0M]
  ·rfl
theorem a1k:∀ t:S,(a0w t).length=size t
 |.nil=>rfl
 |.node x l r=>by have:=a1k l;have:=a1k r;simp only[a0w,size,List.length_append,List.length_cons];omega
theorem a7D:∀ (x:It)(l r:S),a8O x l r :: a0w (a5P x l r)=a0w l++x :: a0w r
 |x,.nil,r=>by simp[a8O,a5P,a0w]
 |x,.node y a b,r=>by
  have:=a7D y a b;simp only[a8O,a5P,a1G,a0w];rw[<- List.cons_append,this]
theorem a8d(l r:S):a0w (a5d l r)=a0w l++a0w r:=by
 cases r with
 |nil=>simp[a5d,a0w]
 |node y a b=>simp only[a5d,a1G];rw[a7D];rfl
def lt(x y:It):Prop:=x.f<y.f\/(x.f=y.f/\x.n<y.n)
theorem a4j{f:Int}{x:It}:side f n x<0↔f<x.f\/(f=x.f/\n<x.n):=by
 unfold side;repeat' split
 all_goals omega
theorem a6A{f:Int}{x:It}:0<side f n x↔x.f<f\/(f=x.f/\x.n<n):=by
 unfold side;repeat' split
 all_goals omega
def ins(x:It):List It->List It
 |[]=>[x]
 |y :: r=>if side x.f x.n y<0 then x :: y :: r else y :: ins x r
theorem b3s{x y:It}(h:side x.f x.n y<0)(R:List It):∀ L:List It,ins x (L++y :: R)=ins x L++y :: R
 |[]=>by simp[ins,h]
 |z :: L=>by
  simp only[List.cons_append,ins]
  split
  ·simp
  ·rw[b3s h R L];simp
theorem b0L{x:It}(R:List It):∀ L:List It,(∀ z∈L,¬ side x.f x.n z<0)->ins x (L++R)=L++ins x R
 |[],_=>rfl
 |z :: L,h=>by
  simp only[List.cons_append,ins];rw[if_neg (h z (by simp)),b0L R L (fun y hy=>h y (by simp[hy]))]
def Ord(l:List It):Prop:=l.Pairwise lt
theorem b1D{x:It}{l r:S}(h:Ord (a0w (.node x l r))):Ord (a0w l)/\Ord (a0w r)/\(∀ z∈a0w l,lt z x)/\(∀ z∈a0w r,lt x z):=by
 simp only[a0w,Ord,List.pairwise_append,List.pairwise_cons] at h;exact⟨h.1,h.2.1.2,fun z hz=>h.2.2 z hz x (by simp),h.2.1.1⟩
theorem a9o(x:It):∀ t:S,Ord (a0w t)->(∀ z∈a0w t,¬ (z.f=x.f/\z.n=x.n))->a0w (put x t)=ins x (a0w t)
 |.nil,_,_=>by simp[put,a1G,a0w,ins]
 |.node y l r,h,hn=>by
  obtain⟨h1,h2,h3,h4⟩:=b1D h;have hy:=hn y (by simp[a0w]);unfold put
  by_cases a:side x.f x.n y<0
  ·rw[if_pos a,a1G,a9o x l h1 (fun z hz=>hn z (by simp[a0w,hz]))];simp only[a0w];rw[b3s a]
  ·by_cases b:0<side x.f x.n y
   ·rw[if_neg a,if_pos b,a1G,a9o x r h2 (fun z hz=>hn z (by simp[a0w,hz]))];simp only[a0w];rw[b0L _ _ (fun z hz=>?_)]
    ·simp[ins,a]
    ·have:=h3 z hz;rw[a4j];rw[a6A] at b;unfold lt at this;omega
   ·rw[a4j] at a;rw[a6A] at b;omega
theorem a4u{p:It->Bool}{l:List It}(h:∀ z∈l,p z=true):l.filter p=l:=List.filter_eq_self.2 h
def a8n(f n:Int)(z:It):Bool:=!(decide (z.f=f) && decide (z.n=n))
theorem a9k{f:Int}{z y:It}(h:side f n y<0)(k:z=y\/lt y z):a8n f n z=true:=by
 rw[a4j] at h;simp[a8n];rcases k with rfl|k
 ·omega
 ·unfold lt at k;omega
theorem a9l{f:Int}{z y:It}(h:0<side f n y)(k:z=y\/lt z y):a8n f n z=true:=by
 rw[a6A] at h;simp[a8n];rcases k with rfl|k
 ·omega
 ·unfold lt at k;omega
theorem a7E(f n:Int):∀ t:S,Ord (a0w t)->a0w (drop f n t)=(a0w t).filter (a8n f n)
 |.nil,_=>rfl
 |.node y l r,h=>by
  obtain⟨h1,h2,h3,h4⟩:=b1D h;unfold drop
  by_cases a:side f n y<0
  ·rw[if_pos a,a1G,a7E f n l h1];simp only[a0w,List.filter_append,List.filter_cons,a9k a (.inl rfl),if_true];rw[a4u (l:=a0w r) (fun z hz=>a9k a (.inr (h4 z hz)))]
  ·by_cases b:0<side f n y
   ·rw[if_neg a,if_pos b,a1G,a7E f n r h2];simp only[a0w,List.filter_append,List.filter_cons,a9l b (.inl rfl),if_true];rw[a4u (l:=a0w l) (fun z hz=>a9l b (.inr (h3 z hz)))]
   ·rw[if_neg a,if_neg b,a8d];have e:f=y.f/\n=y.n:=by rw[a4j] at a;rw[a6A] at b;omega
    have hy:a8n f n y=false:=by simp[a8n,e.1,e.2]
    simp only[a0w,List.filter_append,List.filter_cons,hy];rw[a4u (l:=a0w l) (fun z hz=>?_),a4u (l:=a0w r) (fun z hz=>?_)]
    ·simp
    ·have:=h4 z hz;simp[a8n];unfold lt at this;omega
    ·have:=h3 z hz;simp[a8n];unfold lt at this;omega
theorem b1I{x z:It}:∀ {l:List It},z∈ins x l↔z=x\/z∈l
 |[]=>by simp[ins]
 |y :: r=>by
  simp only[ins];split
  ·simp
  ·simp[b1I (l:=r)];constructor
   ·rintro (h|h|h)
    ·exact .inr (.inl h)
    ·exact .inl h
    ·exact .inr (.inr h)
   ·rintro (h|h|h)
    ·exact .inr (.inl h)
    ·exact .inl h
    ·exact .inr (.inr h)
theorem b0H(x:It):∀ l:List It,(ins x l).length=l.length+1
 |[]=>rfl
 |y :: r=>by
  simp only[ins];split
  ·simp
  ·simp[b0H x r]
theorem b9T{x:It}:∀ {l:List It},Ord l->(∀ z∈l,¬ (z.f=x.f/\z.n=x.n))->Ord (ins x l)
 |[],_,_=>by simp[ins,Ord]
 |y :: r,h,hn=>by
  simp only[Ord,List.pairwise_cons] at h;have hy:=hn y (by simp);simp only[ins];split
  ·rename_i a
   rw[a4j] at a;refine List.pairwise_cons.2 ⟨fun z hz=>?_,List.pairwise_cons.2 h⟩;rcases List.mem_cons.1 hz with rfl|hz
   ·unfold lt;omega
   ·have:=h.1 z hz;unfold lt at *;omega
  ·rename_i a
   refine List.pairwise_cons.2 ⟨fun z hz=>?_,b9T h.2 (fun z hz=>hn z (by simp[hz]))⟩;rcases b1I.1 hz with rfl|hz
   ·rw[a4j] at a;unfold lt;omega
   ·exact h.1 z hz
theorem b0C{l:List It}(p:It->Bool)(h:Ord l):Ord (l.filter p):=List.Pairwise.filter p h
def meets(a b:Int)(x:It):Bool:=decide (x.f<b) && decide (a<x.t)
def meet(a b:Int):S->List It
 |.nil=>[]
 |.node x l r=>if late (.node x l r)<=a then [] else meet a b l++if b<=x.f then [] else (if a<x.t then [x] else [])++meet a b r
theorem b4Y:∀ (t:S),∀ z∈a0w t,z.t<=late t
 |.nil=>by simp[a0w]
 |.node x l r=>by
  have h1:=b4Y l;have h2:=b4Y r;intro z hz;simp only[late,c4a];simp only[a0w,List.mem_append,List.mem_cons] at hz;rcases hz with hz|rfl|hz
  ·have:=h1 z hz;have e:isNil l=false:=by cases l <;> simp_all [isNil,a0w]
   simp only[e,Bool.false_eq_true,if_false];split <;> omega
  ·split <;> split <;> omega
  ·have:=h2 z hz;have e:isNil r=false:=by cases r <;> simp_all [isNil,a0w]
   simp only[e,Bool.false_eq_true,if_false];split <;> omega
theorem b1J(a b:Int):∀ t:S,Ord (a0w t)->meet a b t=(a0w t).filter (meets a b)
 |.nil,_=>rfl
 |.node x l r,h=>by
  obtain⟨h1,h2,h3,h4⟩:=b1D h;have hl:=b4Y (.node x l r);unfold meet
  split
  ·rename_i hc
   symm;rw[List.filter_eq_nil_iff]
   intro z hz;have:=hl z hz;simp[meets];omega
  ·rw[b1J a b l h1];simp only[a0w,List.filter_append]
   congr 1
   split
   ·rename_i hb
    symm;rw[List.filter_eq_nil_iff]
    intro z hz;rcases List.mem_cons.1 hz with rfl|hz
    ·simp[meets];omega
    ·have:=h4 z hz;unfold lt at this;simp[meets];omega
   ·rename_i hb
    rw[b1J a b r h2,List.filter_cons];have hb':x.f<b:=by omega
    simp only[meets,hb',decide_true,Bool.true_and,decide_eq_true_eq]
    split <;> rfl
end Avl
structure a2G(w:World)(b:Nat)(x:Avl.It):Prop where
 c0:w.cell? ⟨b,0,none⟩=some (.int .i64 x.f)
 c1:w.cell? ⟨b,1,none⟩=some (.int .i64 x.t)
 c2:w.cell? ⟨b,2,none⟩=some (.int .i64 x.n)
 c3:w.cell? ⟨b,3,none⟩=some (.pointer (some ⟨x.v,0,none⟩))
 c4:∃ y,w.cell? ⟨b,4,none⟩=some (.int .i64 y)
 c5:∃ y,w.cell? ⟨b,5,none⟩=some (.int .i64 y)
 c6:∃ y,w.cell? ⟨b,6,none⟩=some (.pointer y)
 c7:∃ y,w.cell? ⟨b,7,none⟩=some (.pointer y)
 fz:∀ o,w.frozen? ⟨b,o,none⟩=false
def a2p(w:World):Avl.S->Value->List Nat->Prop
 |.nil,p,F=>p=.pointer none/\F=[]
 |.node x l r,p,F=>∃ (b:Nat) (pl pr:Option Addr) (Fl Fr:List Nat),p=.pointer (some ⟨b,0,none⟩)/\a2G w b x/\w.cell? ⟨b,4,none⟩=some (.int .i64 (Avl.late (.node x l r)))/\w.cell? ⟨b,5,none⟩=some (.int .i64 (Avl.ht (.node x l r)))/\w.cell? ⟨b,6,none⟩=some (.pointer pl)/\w.cell? ⟨b,7,none⟩=some (.pointer pr)/\a2p w l (.pointer pl) Fl/\a2p w r (.pointer pr) Fr/\F=b :: (Fl++Fr)/\F.Nodup
structure a0J(w:World)(b:Nat)(x:Avl.It)(l r:Avl.S)(pl pr:Option Addr)(Fl Fr:List Nat):Prop where
 n:a2G w b x
 c6:w.cell? ⟨b,6,none⟩=some (.pointer pl)
 c7:w.cell? ⟨b,7,none⟩=some (.pointer pr)
 l:a2p w l (.pointer pl) Fl
 r:a2p w r (.pointer pr) Fr
 nd:(b :: (Fl++Fr)).Nodup
theorem a2G.lt{x:Avl.It}(h:a2G w b x):b<w.heap.size:=World.block_lt_of_cell? _ _ h.c0
theorem a2G.off{x:Avl.It}(h:a2G w b x)(k:Off G w w')(hb:b ∉ G):a2G w' b x :=
 ⟨k.cell hb h.c0,k.cell hb h.c1,k.cell hb h.c2,k.cell hb h.c3,h.c4.imp (fun _=>k.cell hb),h.c5.imp (fun _=>k.cell hb),h.c6.imp (fun _=>k.cell hb),h.c7.imp (fun _=>k.cell hb),fun o=>(k.frozen hb h.lt).trans (h.fz o)⟩
theorem a2G.set4{x:Avl.It}(h:a2G w b x)(y:Int):a2G (w.setCell ⟨b,4,none⟩ (.int .i64 y)) b x:=by
 obtain⟨_,e⟩:=h.c4;exact⟨(zS _ _ _ _ (by simp)).trans h.c0,(zS _ _ _ _ (by simp)).trans h.c1,(zS _ _ _ _ (by simp)).trans h.c2,(zS _ _ _ _ (by simp)).trans h.c3,⟨_,World.cell?_setCell_same _ _ _ e⟩,h.c5.imp (fun _ e=>(zS _ _ _ _ (by simp)).trans e),h.c6.imp (fun _ e=>(zS _ _ _ _ (by simp)).trans e),h.c7.imp (fun _ e=>(zS _ _ _ _ (by simp)).trans e),fun o=>(zF ..).trans (h.fz o)⟩
theorem a2G.set5{x:Avl.It}(h:a2G w b x)(y:Int):a2G (w.setCell ⟨b,5,none⟩ (.int .i64 y)) b x:=by
 obtain⟨_,e⟩:=h.c5;exact⟨(zS _ _ _ _ (by simp)).trans h.c0,(zS _ _ _ _ (by simp)).trans h.c1,(zS _ _ _ _ (by simp)).trans h.c2,(zS _ _ _ _ (by simp)).trans h.c3,h.c4.imp (fun _ e=>(zS _ _ _ _ (by simp)).trans e),⟨_,World.cell?_setCell_same _ _ _ e⟩,h.c6.imp (fun _ e=>(zS _ _ _ _ (by simp)).trans e),h.c7.imp (fun _ e=>(zS _ _ _ _ (by simp)).trans e),fun o=>(zF ..).trans (h.fz o)⟩
theorem a2G.c5K{x:Avl.It}(h:a2G w b x)(y:Option Addr):a2G (w.setCell ⟨b,6,none⟩ (.pointer y)) b x:=by
 obtain⟨_,e⟩:=h.c6;exact⟨(zS _ _ _ _ (by simp)).trans h.c0,(zS _ _ _ _ (by simp)).trans h.c1,(zS _ _ _ _ (by simp)).trans h.c2,(zS _ _ _ _ (by simp)).trans h.c3,h.c4.imp (fun _ e=>(zS _ _ _ _ (by simp)).trans e),h.c5.imp (fun _ e=>(zS _ _ _ _ (by simp)).trans e),⟨_,World.cell?_setCell_same _ _ _ e⟩,h.c7.imp (fun _ e=>(zS _ _ _ _ (by simp)).trans e),fun o=>(zF ..).trans (h.fz o)⟩
theorem a2G.a2w{x:Avl.It}(h:a2G w b x)(y:Option Addr):a2G (w.setCell ⟨b,7,none⟩ (.pointer y)) b x:=by
 obtain⟨_,e⟩:=h.c7;exact⟨(zS _ _ _ _ (by simp)).trans h.c0,(zS _ _ _ _ (by simp)).trans h.c1,(zS _ _ _ _ (by simp)).trans h.c2,(zS _ _ _ _ (by simp)).trans h.c3,h.c4.imp (fun _ e=>(zS _ _ _ _ (by simp)).trans e),h.c5.imp (fun _ e=>(zS _ _ _ _ (by simp)).trans e),h.c6.imp (fun _ e=>(zS _ _ _ _ (by simp)).trans e),⟨_,World.cell?_setCell_same _ _ _ e⟩,fun o=>(zF ..).trans (h.fz o)⟩
theorem a2p.lt{w:World}:∀ {t:Avl.S}{p:Value}{F:List Nat},a2p w t p F->∀ k∈F,k<w.heap.size
 |.nil,p,F,h,k,hk=>by rw[h.2] at hk;cases hk
 |.node a l r,p,F,h,k,hk=>by
  obtain⟨b,pl,pr,Fl,Fr,rfl,n,c4,c5,c6,c7,hl,hr,rfl,nd⟩:=h;rcases List.mem_cons.1 hk with rfl|hk
  ·exact n.lt
  ·rcases List.mem_append.1 hk with hk|hk
   ·exact a2p.lt hl k hk
   ·exact a2p.lt hr k hk
theorem a2p.off{G:List Nat}{w w':World}(h:Off G w w'):∀ {t:Avl.S}{p:Value}{F:List Nat},a2p w t p F->(∀ k∈F,k ∉ G)->a2p w' t p F
 |.nil,p,F,hr,_=>hr
 |.node a l r,p,F,hr,hd=>by
  obtain⟨b,pl,pr,Fl,Fr,rfl,n,c4,c5,c6,c7,hl,hr,rfl,nd⟩:=hr;have hb:b ∉ G:=hd b (by simp);exact⟨b,pl,pr,Fl,Fr,rfl,n.off h hb,h.cell hb c4,h.cell hb c5,h.cell hb c6,h.cell hb c7,a2p.off h hl (fun k hk=>hd k (by simp[hk])),a2p.off h hr (fun k hk=>hd k (by simp[hk])),rfl,nd⟩
theorem a2p.same{t:Avl.S}(h:a2p w t p F)(k:Off [] w w'):a2p w' t p F:=h.off k (fun _ _=>by simp)
theorem a2p.later{t:Avl.S}(h:a2p w t p F)(k:Below w.heap.size w w'):a2p w' t p F:=h.same (Off.of_below k)
theorem a2p.nodup{t:Avl.S}(h:a2p w t p F):F.Nodup:=by
 cases t with
 |nil=>rw[h.2];exact List.nodup_nil
 |node a l r=>obtain⟨b,_,_,_,_,_,_,_,_,_,_,_,_,_,nd⟩:=h;exact nd
theorem a2p.half{x:Avl.It}{l r:Avl.S}(h:a2p w (.node x l r) (.pointer u) F):∃ (b:Nat)(pl pr:Option Addr)(Fl Fr:List Nat),u=some ⟨b,0,none⟩/\F=b :: (Fl++Fr)/\a0J w b x l r pl pr Fl Fr/\w.cell? ⟨b,4,none⟩=some (.int .i64 (Avl.late (.node x l r)))/\w.cell? ⟨b,5,none⟩=some (.int .i64 (Avl.ht (.node x l r))):=by
 obtain⟨b,pl,pr,Fl,Fr,hp,n,c4,c5,c6,c7,hl,hr,hF,nd⟩:=h
 cases hp
 exact⟨b,pl,pr,Fl,Fr,rfl,hF,⟨n,c6,c7,hl,hr,hF ▸ nd⟩,c4,c5⟩
theorem a0J.rep{x:Avl.It}{l r:Avl.S}(h:a0J w b x l r pl pr Fl Fr)(c4:w.cell? ⟨b,4,none⟩=some (.int .i64 (Avl.late (.node x l r))))(c5:w.cell? ⟨b,5,none⟩=some (.int .i64 (Avl.ht (.node x l r)))):a2p w (.node x l r) (.pointer (some ⟨b,0,none⟩)) (b :: (Fl++Fr)) :=
 ⟨b,pl,pr,Fl,Fr,rfl,h.n,c4,c5,h.c6,h.c7,h.l,h.r,rfl,h.nd⟩
theorem a0J.off{x:Avl.It}{l r:Avl.S}(h:a0J w b x l r pl pr Fl Fr)(k:Off G w w')(hb:b ∉ G)(hl:∀ y∈Fl,y ∉ G)(hr:∀ y∈Fr,y ∉ G):a0J w' b x l r pl pr Fl Fr :=
 ⟨h.n.off k hb,k.cell hb h.c6,k.cell hb h.c7,h.l.off k hl,h.r.off k hr,h.nd⟩
theorem a0J.same{x:Avl.It}{l r:Avl.S}(h:a0J w b x l r pl pr Fl Fr)(k:Off [] w w'):a0J w' b x l r pl pr Fl Fr:=h.off k (by simp) (by simp) (by simp)
theorem a0J.parts{x:Avl.It}{l r:Avl.S}(h:a0J w b x l r pl pr Fl Fr):b ∉ Fl/\b ∉ Fr/\(∀ y∈Fl,y ∉ [b])/\(∀ y∈Fr,y ∉ [b])/\(∀ y∈Fr,y ∉ Fl)/\(∀ y∈Fl,y ∉ Fr)/\Fl.Nodup/\Fr.Nodup:=by
 have nd:=h.nd;rw[List.nodup_cons,List.nodup_append] at nd;obtain⟨n1,n2,n3,n4⟩:=nd;exact⟨fun e=>n1 (by simp[e]),fun e=>n1 (by simp[e]),fun y hy=>by simp;rintro rfl;exact n1 (by simp[hy]),fun y hy=>by simp;rintro rfl;exact n1 (by simp[hy]),fun y hx hy=>n4 y hy y hx rfl,fun y hx hy=>n4 y hx y hy rfl,n2,n3⟩
theorem a0J.lt{x:Avl.It}{l r:Avl.S}(h:a0J w b x l r pl pr Fl Fr):∀ k∈b :: (Fl++Fr),k<w.heap.size:=by
 intro k hk;rcases List.mem_cons.1 hk with rfl|hk
 ·exact h.n.lt
 ·rcases List.mem_append.1 hk with hk|hk
  ·exact h.l.lt k hk
  ·exact h.r.lt k hk
theorem a0J.set4{x:Avl.It}{l r:Avl.S}(h:a0J w b x l r pl pr Fl Fr)(y:Int):a0J (w.setCell ⟨b,4,none⟩ (.int .i64 y)) b x l r pl pr Fl Fr :=
 ⟨h.n.set4 y,(zS _ _ _ _ (by simp)).trans h.c6,(zS _ _ _ _ (by simp)).trans h.c7,h.l.off (Off.set0 ..) h.parts.2.2.1,h.r.off (Off.set0 ..) h.parts.2.2.2.1,h.nd⟩
theorem a0J.set5{x:Avl.It}{l r:Avl.S}(h:a0J w b x l r pl pr Fl Fr)(y:Int):a0J (w.setCell ⟨b,5,none⟩ (.int .i64 y)) b x l r pl pr Fl Fr :=
 ⟨h.n.set5 y,(zS _ _ _ _ (by simp)).trans h.c6,(zS _ _ _ _ (by simp)).trans h.c7,h.l.off (Off.set0 ..) h.parts.2.2.1,h.r.off (Off.set0 ..) h.parts.2.2.2.1,h.nd⟩
theorem a0J.setl{x:Avl.It}{r l':Avl.S}(h:a2G w b x)(c7:w.cell? ⟨b,7,none⟩=some (.pointer pr))(hl:a2p w l' (.pointer u) F')(hr:a2p w r (.pointer pr) Fr)(nd:(b :: (F'++Fr)).Nodup):a0J (w.setCell ⟨b,6,none⟩ (.pointer u)) b x l' r u pr F' Fr:=by
 obtain⟨_,e⟩:=h.c6;have nd':=nd;rw[List.nodup_cons,List.nodup_append] at nd';exact⟨h.c5K u,World.cell?_setCell_same _ _ _ e,(zS _ _ _ _ (by simp)).trans c7,hl.off (Off.set0 ..) (fun y hy=>by simp;rintro rfl;exact nd'.1 (by simp[hy])),hr.off (Off.set0 ..) (fun y hy=>by simp;rintro rfl;exact nd'.1 (by simp[hy])),nd⟩
theorem a0J.setr{x:Avl.It}{l r':Avl.S}(h:a2G w b x)(c6:w.cell? ⟨b,6,none⟩=some (.pointer pl))(hl:a2p w l (.pointer pl) Fl)(hr:a2p w r' (.pointer u) F')(nd:(b :: (Fl++F')).Nodup):a0J (w.setCell ⟨b,7,none⟩ (.pointer u)) b x l r' pl u Fl F':=by
 obtain⟨_,e⟩:=h.c7;have nd':=nd;rw[List.nodup_cons,List.nodup_append] at nd';exact⟨h.a2w u,(zS _ _ _ _ (by simp)).trans c6,World.cell?_setCell_same _ _ _ e,hl.off (Off.set0 ..) (fun y hy=>by simp;rintro rfl;exact nd'.1 (by simp[hy])),hr.off (Off.set0 ..) (fun y hy=>by simp;rintro rfl;exact nd'.1 (by simp[hy])),nd⟩
end Go.Proofs.YtfigmlfdnickmaaGreatDoor
