/-
  Parts of the proof, one behind the other.
-/
import Derived.Test.YtjfkfiffakbagaaGreatDoorL20
import Derived.Test.YtjfkfiffakbagaaGreatDoorRows
import Derived.Test.YtjfkfiffakbagaaGreatDoorCards
import Derived.Test.YtjfkfiffakbagaaGreatDoorTie
import Derived.WalkKit
import Derived.ProofKit
import Derived.Deep.DeepWitnessRowRef
import Derived.LaidLaws
import Derived.OpenShut
import Derived.Deep.Slices
import Derived.Deep.DeepHandedRow
import Derived.Lib.LaidTab
import Derived.Lib.LaidU8
import Derived.Shelf.Vars
set_option maxRecDepth 100000
set_option maxHeartbeats 8000000
namespace Go.Proofs.YtjfkfiffakbagaaGreatDoor
open Go.RowKit
open Desk (Ent St Ids kept a0C a0Q a1C a2e ofB a0y a2c Mid a1H a0z Inv a0h a2x a1q Rep b0g a1Q a9A a1e)
theorem e6t(a b:Int)(raw:Value)(ss:List ByteArray)(more:ByteArray)(w:World)(he:Env w)(hraw:TV w raw ss)(hm:more.size<=9223372036854775807)(ha1:-9223372036854775808<=a)(ha2:a<=9223372036854775807)(hb1:-9223372036854775808<=b)(hb2:b<=9223372036854775807):
  Calls Tryz.prog 7 #[.int .i64 a,.int .i64 b,raw,.string more] w fun e w'=>e=.returned (.bool true)/\Below w.heap.size w w':=by
 obtain⟨rav,racap,rfl⟩:=hraw.form
 have RM:=a0b (c2p a b w ha1 ha2 hb1 hb2)
 obtain⟨x1,x2⟩:=a6G (c:=a) (n:=4) (by omega)
 obtain⟨y1,y2⟩:=a6G (c:=b) (n:=9) (by omega)
 have A1:1<=1+a2s a 4:=by omega
 have A2:1+a2s a 4<=9:=by omega
 have B1:1<=1+a2s b 9:=by omega
 have B2:1+a2s b 9<=9:=by omega
 have HE:=a0b he
 have HR:=a0b hraw
 generalize 1+a2s a 4=A at *
 generalize 1+a2s b 9=B at *
 clear x1 x2 y1 y2 he hraw ha1 ha2 hb1 hb2
 go_enter Tryz.func7,Tryz.ntmps7
 go_upto_region 2 with (first
  |(go_at_call 16;refine RM.out.mono ?_;rintro e w1 ⟨rfl,hb1⟩))
 change Code.wp _ _ _ _ (w1.alloc (a1T A B))
 have hX:Below w.heap.size w (w1.alloc (a1T A B)):=hb1.trans (((Below.refl w1.heap.size w1).alloc (Nat.le_refl _) _).mono hb1.size)
 have hro:=a0p w1 (a1T A B)
 have hrl:w1.heap.size<(w1.alloc (a1T A B)).heap.size:=by simp
 have HX:=a0b hX
 have h10:=Nat.le_trans HE.out.size hX.size
 have RO:Hid (∀ W',Below (w1.alloc (a1T A B)).heap.size (w1.alloc (a1T A B)) W'->W'.cell? ⟨w1.heap.size,0,none⟩=some (.int .i64 A)/\W'.cell? ⟨w1.heap.size,1,none⟩=some (.int .i64 B)):=fun W' k=>by
  have h:=(k.block w1.heap.size hrl).trans hro
  unfold a1T at h
  obtain⟨x,y,_⟩:=b0q h
  exact⟨x,y⟩
 have BG:=a0b (c1y _ (HE.out.later hX) A B ⟨A1,A2⟩ ⟨B1,B2⟩)
 have HT:=a0b (HR.out.below hX)
 clear hX hro hrl RM hb1 HR HE
 generalize w1.alloc (a1T A B)=X at *
 generalize w1.heap.size=Rb at *
 obtain⟨ra,rb⟩:=RO.out X (Below.refl _ _)
 go_upto_region 5 with (first
  |(go_at_call 17;refine BG.out.mono ?_;rintro e w2 ⟨p,dk,r,col,rfl,D2⟩;have HD:=a0b (CX.of D2);clear D2 BG ra rb))
 go_upto_region 6 with (first
  |(go_at_call 18;refine (CX.played HD.out HT.out).mono ?_;rintro e w3 ⟨s,rfl,hAf,hD3⟩;have HAf:=a0b hAf;replace HD:=a0b hD3;clear hAf hD3))
 clear HT
 have UA:Hid (∀ i,a0h (a1A i) s.ts=a0h (a1A i) (a3Z A B).ts/\a0h (a1A i) s.ts≠0):=fun i=>by
  have h:=HAf.out.ts (a1A i) (b2x A1 B1 i)
  exact⟨h,by rw[h];exact b2x A1 B1 i⟩
 have hgv:s.given<=30:=by have:=HAf.out.gv;have e:(a3Z A B).given=0:=rfl;omega
 clear HAf
 go_upto_region 7 with fail
 change Code.wp _ _ _ _ (w3.alloc (a8o more 0))
 have AK:=a0b (b0I (b6W HD.out.env more hm))
 have HL:=a0b (And.intro HD.out.pl HD.out.bl.size)
 go_upto_region 8 with (first
  |(go_at_call 24;refine AK.out.mono ?_;rintro e w7 ⟨nm,u,fr0,til0,rfl,hak,hfw⟩))
 change Code.wp _ _ _ _ (w7.alloc (a1P nm u fr0 til0))
 obtain⟨fa,hfd⟩:=hfw.fd
 have hlt7:w3.heap.size<w7.heap.size:=(Array.getElem?_eq_some_iff.1 hfd.b).1
 have HX7:Hid (CX X (w7.alloc (a1P nm u fr0 til0)) p dk s [(w3.heap.size,a8o more fa),(w7.heap.size,a1P nm u fr0 til0)] []):=by
  have hz:=HD.out.alloc (a8o more 0)
  have h2:=hz.put' ⟨h10,HL.out.2,by have:=HL.out.1;omega,fun q hq=>(by cases hq),fun q hq=>(by cases hq)⟩ hfw.off hfd.b
  exact (h2.alloc _).swap
 have OF:Hid (∀ ks,(∀ q∈ks,w3.heap.size<q.1)->Own X w3.heap.size p ks []):=fun ks hk=>⟨h10,HL.out.2,by have:=HL.out.1;omega,fun q hq=>by have:=hk q hq;omega,fun q hq=>by cases hq⟩
 have OX:Hid (Own X w7.heap.size p [] []):=⟨h10,Nat.le_trans HL.out.2 (by omega),by have:=HL.out.1;omega,fun q hq=>(by cases hq),fun q hq=>(by cases hq)⟩
 have u1:=hak.u1
 have u3:=hak.u3
 have hfa:=hfd.le
 have hxF:w3.heap.size<w7.heap.size:=hlt7
 clear AK HD hfd hfw hak hlt7 HL
 generalize w7.alloc (a1P nm u fr0 til0)=V at HX7 ⊢
 generalize w7.heap.size=xb at *
 generalize w3.heap.size=F at *
 have O1:Hid (∀ o,Own X F p [(xb,o)] []):=fun o=>OF.out _ (fun q hq=>by rw[List.mem_singleton.1 hq];exact hxF)
 go_upto_region 9 with (first
  |(go_at_call 25;refine (CX.next HX7.out (O1.out _) hfa hm 60 (by omega) (by omega)).mono ?_;rintro e w8 ⟨v8,fb,rfl,p0,p1,hfb,hc8⟩;have HX8:=a0b hc8;clear hc8;have kl:IntKind.i64.wrap (1+v8)=1+v8:=a0G (by omega) (by omega)))
 have lo1:1<=1+v8:=by omega
 have lo2:1+v8<=60:=by omega
 generalize 1+v8=lo at lo1 lo2 ⊢
 clear kl p0 p1 HX7 hfa
 go_upto_region 10 with (first
  |(go_at_call 25;refine (CX.next HX8.out (O1.out _) hfb hm 160 (by omega) (by omega)).mono ?_;rintro e w9 ⟨from_,fc,rfl,f0,f1,hfc,hc9⟩;have HX9:=a0b hc9;clear hc9 hfb))
 clear HX8
 have kf:IntKind.i64.wrap (from_+1)=from_+1:=a0G (by omega) (by omega)
 go_upto_region 11 with (first
  |(go_at_call 25;refine (CX.next HX9.out (O1.out _) hfc hm 200 (by omega) (by omega)).mono ?_;rintro e w10 ⟨v10,fe,rfl,p0,p1,hfe,hc10⟩;have HX10:=a0b hc10;clear hc10 hfc;have kg:IntKind.i64.wrap (from_+1+v10)=from_+1+v10:=a0G (by omega) (by omega)))
 have t0:from_<from_+1+v10:=by omega
 have t1:from_+1+v10<=400:=by omega
 generalize from_+1+v10=ti at t0 t1 ⊢
 clear kf kg p0 p1 HX9
 have hlb:=(Array.getElem?_eq_some_iff.1 (HX10.out.kb (List.mem_cons_self ..))).1
 have HZ:=a0b ((HX10.out.alloc a1B).swap)
 have NX:Hid (Calls Tryz.prog 25 #[.pointer (some ⟨F,0,none⟩),.int .i64 2] (w10.alloc a1B) fun e W'=>∃ (n:Nat),e=.returned (.int .i64 (n:Int))/\(n:Int)<2/\n<2/\W'.cell? ⟨w10.heap.size,n,none⟩=some (.string (a1A n))/\CX X W' p dk s [(xb,a1P nm u fr0 til0)] []):=by
  refine (CX.next HZ.out (OF.out _ (fun q hq=>?_)) hfe hm 2 (by omega) (by omega)).mono ?_
  ·rcases List.mem_cons.1 hq with rfl|hq
   ·exact hlb
   ·rw[List.mem_singleton.1 hq];exact hxF
  ·rintro e W' ⟨v,fg,rfl,q0,q1,_,hc⟩
   obtain⟨n,rfl⟩:=Int.eq_ofNat_of_zero_le q0
   exact⟨n,rfl,q1,by omega,a6P (hc.kb (List.mem_cons_of_mem _ (List.mem_cons_self ..))) n (by omega),hc.less (fun q hq=>by rw[List.mem_singleton.1 hq];simp) (by simp)⟩
 clear HX10 HZ O1 OF hfe hlb
 go_upto_region 12 with (first
  |(go_at_call 25;refine NX.out.mono ?_;rintro e w11 ⟨n8,rfl,q1,hn8,cn,hc11⟩;obtain⟨c0,_,_,_,cf⟩:=a1y (hc11.kb (List.mem_cons_self ..));have HX11:=a0b hc11;clear hc11 NX))
 have HX12:=a0b (HX11.out.put' OX.out (Off.set0 xb w11 0 (.string (a1A n8))) (a2A (HX11.out.kb (List.mem_cons_self ..)) _))
 clear HX11 cn c0 cf q1
 generalize w11.setCell ⟨xb,0,none⟩ (.string (a1A n8))=V12 at HX12 ⊢
 change Hid (CX X V12 p dk s [(xb,a1P (a1A n8) u fr0 til0)] []) at HX12
 rename_i K14 h14 K12 h12
 have un1:1<=a0h (a1A n8) s.ts:=by have:=(Desk.a4g HX12.out.inv.tu (a1A n8)).1;have:=(UA.out n8).2;omega
 have un9:=(Desk.a4g HX12.out.inv.tu (a1A n8)).2
 have KK:∀ (z0 z1 z2 z3 z4 z5 z6 z7 z8 z13 z18 z19 z20 z21 z22 z23 z24 z25 z26 z27 z28 z29 z30 z31 z32 z33 z34 z35 z36 z37 z38 z39 z40 z41 z42 z43 z44 z45 z46 z47 z48 z49 z50 z51 z52 z53 z54 z55 z56 z57 z58 z59 z60 z61 z62 z63 z64 z65 z66 z67 z68 z69 z70 z71 z72 z73 z74 z75 z76 z77 z78 z79 z80 z81 z82 z83 z84 z85 z86 z87 z88 z89 z90 z91 z92 z93 z94 z95 z96 z97 z98 z99 z100 z101 z102 z103 z104 z105 z106 z107 z108 z109 z110 z111 z112 z113 z114 z115 z116 z117 z118 z119 z120 z121 z122 z123 z124 z125 z126 z127 z128 z129 z130 z131 z132 z133 z134 z135 z136 z137 z138 z139 z140 z141 z142 z143 z144 z145 z146 z147 z148 z149 z150 z151 z152 z153 z154 z155 z156 z157 z158 z159 z160 z161 z162 z163 z164 z165 z166 z167 z168 z169 z170 z171 z172 z173 z174 z175 z176 z177 z178 z179 z180 z181 z182 z183 z184 z185 z186 z187 z188 z189 z190:Value) (u:Int) (W:World),1<=u->u<=a0h (a1A n8) s.ts->CX X W p dk s [(xb,a1P (a1A n8) u fr0 til0)] []->K14 { tmps:=#[z0,z1,z2,z3,z4,z5,z6,z7,z8,.pointer (some ⟨Rb,0,none⟩),.pointer (some ⟨p,0,none⟩),.bool true,.bool true,z13,.pointer (some ⟨xb,0,none⟩),.int .i64 lo,.int .i64 from_,.int .i64 ti,z18,z19,z20,z21,z22,z23,z24,z25,z26,z27,z28,z29,z30,z31,z32,z33,z34,z35,z36,z37,z38,z39,z40,z41,z42,z43,z44,z45,z46,z47,z48,z49,z50,z51,z52,z53,z54,z55,z56,z57,z58,z59,z60,z61,z62,z63,z64,z65,z66,z67,z68,z69,z70,z71,z72,z73,z74,z75,z76,z77,z78,z79,z80,z81,z82,z83,z84,z85,z86,z87,z88,z89,z90,z91,z92,z93,z94,z95,z96,z97,z98,z99,z100,z101,z102,z103,z104,z105,z106,z107,z108,z109,z110,z111,z112,z113,z114,z115,z116,z117,z118,z119,z120,z121,z122,z123,z124,z125,z126,z127,z128,z129,z130,z131,z132,z133,z134,z135,z136,z137,z138,z139,z140,z141,z142,z143,z144,z145,z146,z147,z148,z149,z150,z151,z152,z153,z154,z155,z156,z157,z158,z159,z160,z161,z162,z163,z164,z165,z166,z167,z168,z169,z170,z171,z172,z173,z174,z175,z176,z177,z178,z179,z180,z181,z182,z183,z184,z185,z186,z187,z188,z189,z190],defers:=[] } W:=by
  intro z0 z1 z2 z3 z4 z5 z6 z7 z8 z13 z18 z19 z20 z21 z22 z23 z24 z25 z26 z27 z28 z29 z30 z31 z32 z33 z34 z35 z36 z37 z38 z39 z40 z41 z42 z43 z44 z45 z46 z47 z48 z49 z50 z51 z52 z53 z54 z55 z56 z57 z58 z59 z60 z61 z62 z63 z64 z65 z66 z67 z68 z69 z70 z71 z72 z73 z74 z75 z76 z77 z78 z79 z80 z81 z82 z83 z84 z85 z86 z87 z88 z89 z90 z91 z92 z93 z94 z95 z96 z97 z98 z99 z100 z101 z102 z103 z104 z105 z106 z107 z108 z109 z110 z111 z112 z113 z114 z115 z116 z117 z118 z119 z120 z121 z122 z123 z124 z125 z126 z127 z128 z129 z130 z131 z132 z133 z134 z135 z136 z137 z138 z139 z140 z141 z142 z143 z144 z145 z146 z147 z148 z149 z150 z151 z152 z153 z154 z155 z156 z157 z158 z159 z160 z161 z162 z163 z164 z165 z166 z167 z168 z169 z170 z171 z172 z173 z174 z175 z176 z177 z178 z179 z180 z181 z182 z183 z184 z185 z186 z187 z188 z189 z190 u W u1 u2 hW
  refine h14 _ _ ?_
  have HC:=a0b hW
  clear h14 h12 hW HX12 u3 hxF
  have FM:=a0b (f1p HC.out.inv (nm:=a1A n8) (u:=u) (lo:=lo) (fr:=from_) (til:=ti) (by omega) lo1 f0)
  have FS:=a0b (e8X HC.out.inv (nm:=a1A n8) (u:=u) (lo:=lo) (fr:=from_) (til:=ti) (UA.out n8).2 u2 t0)
  have FR:Hid (Reads ((((((((((⟨#[102,105,110,100,32]⟩:ByteArray)++a1A n8)++(⟨#[32]⟩:ByteArray))++Txt.a0x u)++(⟨#[32]⟩:ByteArray))++Txt.a0x lo)++(⟨#[32]⟩:ByteArray))++Txt.a0x from_)++(⟨#[32]⟩:ByteArray))++Txt.a0x ti) (.iface 172 (.agg #[.string (a1A n8),.int .i64 u,.int .i64 lo,.int .i64 from_,.int .i64 ti]))):=e6K (a3x n8) ⟨u1,by omega⟩ ⟨lo1,by omega⟩ ⟨f0,by omega⟩ ⟨by omega,by omega⟩ (by
   simp only[Txt.a1X,List.append_assoc]
   rfl)
  go_upto_region 14 with fail
  refine f3r ⟨by rw[(a3x n8).s];omega,Txt.a0I u (by omega) (by omega),Txt.a0I lo (by omega) (by omega),Txt.a0I from_ (by omega) (by omega),Txt.a0I ti (by omega) (by omega)⟩ ⟨⟨by omega,by omega⟩,⟨by omega,by omega⟩,⟨by omega,by omega⟩,⟨by omega,by omega⟩⟩ h10 FR.out (.find (a1A n8) (by rw[(a3x n8).s];omega) u lo from_ ti) ⟨by omega,by omega,by omega,by omega,by omega,by omega,by omega,by omega⟩ FS.out HC.out ?_
  intro u69 u70 u71 u72 u73 u74 u75 u76 u77 u78 u79 u80 u81 u82 u83 u84 u85 u86 u87 u88 u89 u90 yb v1 v2 v3 v4 W4 hc4
  replace HC:=a0b hc4
  clear hc4 FR FS
  generalize a9A s.ts s.es (a1A n8) u lo from_ ti=N at HC FM
  have N1:=FM.out.1
  have c0:=(a1y (HC.out.kb (b:=xb) (List.mem_cons_of_mem _ (List.mem_cons_self ..)))).1
  go_upto_region 16 with (first
   |(go_at_call 19;refine (CX.entries HC.out (a1A n8) (a3x n8) (UA.out n8).2).mono ?_;rintro e w5 ⟨l,la,lc,rfl,hents,hc5⟩;have HE:=a0b hents;replace HC:=a0b hc5;clear hc5 hents c0))
  obtain⟨e0,_,e2,_⟩:=a2T (HC.out.kb (List.mem_cons_self ..))
  have n1:¬ N < -1:=by omega
  have DN:Hid (∀ W',CX X W' p dk s [] []->Below w.heap.size w W'):=fun W' k=>HX.out.trans (k.bl.mono HX.out.size)
  have hne:yb≠xb:=fun e=>by
   have a1:=HC.out.kb (b:=yb) (List.mem_cons_self ..)
   have a2:=HC.out.kb (b:=xb) (List.mem_cons_of_mem _ (List.mem_cons_self ..))
   rw[e,a2] at a1
   simp[a1P,a5w] at a1
  have HNE:=a0b hne
  clear hne
  have K18:Hid (∀ W',CX X W' p dk s [(yb,a5w 0 0 N v1 v2 v3 v4),(xb,a1P (a1A n8) u fr0 til0)] [(.slice la l.length lc,l)]->W'.cell? ⟨yb,0,none⟩=some (.int .i64 0)/\W'.cell? ⟨yb,2,none⟩=some (.int .i64 N)/\W'.cell? ⟨xb,0,none⟩=some (.string (a1A n8))/\W'.cell? ⟨xb,1,none⟩=some (.int .i64 u)/\W'.cell? ⟨Rb,0,none⟩=some (.int .i64 A)/\W'.cell? ⟨Rb,1,none⟩=some (.int .i64 B)):=fun W' k=>by
   obtain⟨q0,_,q2,_⟩:=a2T (k.kb (List.mem_cons_self ..))
   obtain⟨c0,c1,_⟩:=a1y (k.kb (b:=xb) (List.mem_cons_of_mem _ (List.mem_cons_self ..)))
   obtain⟨ra,rb⟩:=RO.out W' k.bl
   exact⟨q0,q2,c0,c1,ra,rb⟩
  by_cases hN:N<0
  ·have n2:¬ 0<=N:=by omega
   go_upto_region 18 with fail
   clear e0 e2
   go_upto_region 19 with fail
   go_loopw [20,21] (fun vi _ wr=>∃ x:Int,from_<=x/\x<=ti/\vi=.int .i64 x/\CX X wr p dk s [(yb,a5w 0 0 N v1 v2 v3 v4),(xb,a1P (a1A n8) u fr0 til0)] [(.slice la l.length lc,l)]) (fun vi _ _=>(ti+1-intOf vi).toNat)
   case atStart=>exact⟨from_,by omega,by omega,rfl,HC.out⟩
   case round =>
    obtain⟨x,hx1,hx2,rfl,hcx⟩:=hrel
    replace HC:=a0b hcx
    clear hcx
    obtain⟨q0,q2,s0,s1,s2,s3⟩:=K18.out _ HC.out
    have kx:IntKind.i64.wrap (x+lo)=x+lo:=a0G (by omega) (by omega)
    have kx1:IntKind.i64.wrap (x+1)=x+1:=a0G (by omega) (by omega)
    by_cases hgo:x+lo<=ti/\(N<0\/x<=N)
    ·obtain⟨g1,g2⟩:=hgo
     have FX:=FM.out.2.2 x hx1 g1 g2
     have PK:=a0b (fun W' (k:Below wr.drew.heap.size wr.drew W')=>b3i W' (.slice la l.length lc) l ((HC.out.drew.later k).ev (List.mem_cons_self ..)) (a6T HC.out.inv HE.out) x (x+lo))
     have EP:Hid (b0g (a1m l) x (x+lo)=a1Q (a1A n8) s.es x (x+lo)):=by
      show _=_
      unfold a1m
      rw[HE.out]
      exact Desk.a5y HC.out.inv (a1A n8) (by omega)
     rw[EP.out] at PK
     have pk0:=b4N HC.out.inv (a1A n8) (a:=x) (b:=x+lo) (by omega)
     have pk1:=b0A HC.out.inv (a1A n8) (a:=x) (b:=x+lo) (by omega)
     have kp:IntKind.i64.wrap (a1Q (a1A n8) s.es x (x+lo)+u)=a1Q (a1A n8) s.es x (x+lo)+u:=a0G (by omega) (by omega)
     have UN:=a0b (fun W'=>a7B A B (a1A n8) (a7y n8) W')
     rw[<- (UA.out n8).1] at UN
     have hfit:∃ bq:Bool,decide (a1Q (a1A n8) s.es x (x+lo)+u<=a0h (a1A n8) s.ts)=bq/\(x==N)=bq:=by
      rw[FX]
      by_cases e:x=N
      ·exact⟨true,by simp[e],by simp[e]⟩
      ·exact⟨false,by simp[e],by simp[e]⟩
     have HFI:=a0b hfit
     clear hfit
     clear FX pk0 pk1 EP
     generalize a1Q (a1A n8) s.es x (x+lo)=pn at PK kp HFI
     generalize a0h (a1A n8) s.ts=un at UN HFI
     have HXd:=a0b HC.out.drew
     have SS:Hid (∀ W',Below wr.drew.heap.size wr.drew W'->W'.cell? ⟨xb,0,none⟩=some (.string (a1A n8))/\W'.cell? ⟨xb,1,none⟩=some (.int .i64 u)/\W'.cell? ⟨Rb,0,none⟩=some (.int .i64 A)/\W'.cell? ⟨Rb,1,none⟩=some (.int .i64 B)):=fun W' k=>⟨a0a k s0,a0a k s1,a0a k s2,a0a k s3⟩
     go_upto_region 21 with fail
     go_region_held3 (fun W'=>W'.cell? ⟨xb,0,none⟩=some (.string (a1A n8))/\W'.cell? ⟨xb,1,none⟩=some (.int .i64 u)/\W'.cell? ⟨Rb,0,none⟩=some (.int .i64 A)/\W'.cell? ⟨Rb,1,none⟩=some (.int .i64 B))
      (first
       |with_reducible exact SS.out _ HB7.out
       |with_reducible exact SS.out _ HB6.out
       |exact⟨s0,s1,s2,s3⟩)
      (first
       |(go_at_call 22;refine (PK.out _ (Below.refl _ _)).mono ?_;rintro e w6 ⟨rfl,hb6⟩;have HB6:=a0b hb6;clear hb6)
       |(go_at_call 23;refine (UN.out _).mono ?_;rintro e w7 ⟨rfl,hb7⟩;have HB7:=a0b (a0j HB6.out hb7 (Nat.le_refl _));clear hb7))
     have HF:=a0b (HXd.out.later HB7.out)
     have q2b:=(K18.out _ HF.out).2.1
     clear SS HB6 HB7 HXd HC PK UN q0 q2 s0 s1 s2 s3
     obtain⟨bq,e1,e2⟩:=HFI.out
     go_upto_region 22 with fail
     rw[e1]
     clear e1 HFI kp
     cases bq
     all_goals
      go_wp2_with fail
      go_roundw
      case rel=>exact⟨x+1,by omega,by omega,rfl,HF.out⟩
      case measure=>simp[intOf];omega
    ·have hno:¬ x+lo<=ti:=fun c=>hgo ⟨c,.inl hN⟩
     have HF:=a0b (DN.out _ (HC.out.less (by simp) (by simp)))
     clear hgo K18 HC DN q0 s0 s1 s2 s3
     go_wp2_with fail
     go_ret
     exact⟨rfl,HF.out⟩
  ·have n2:0<=N:=by omega
   obtain⟨m1,m2,m3⟩:=FM.out.2.1 n2
   have n3:¬ N<from_:=by omega
   have kn:IntKind.i64.wrap (N+lo)=N+lo:=a0G (by omega) (by omega)
   have n4:¬ ti<N+lo:=by omega
   go_upto_region 18 with fail
   clear e0 e2
   go_upto_region 19 with fail
   go_loopw [20,21] (fun vi _ wr=>∃ x:Int,from_<=x/\x<=ti/\vi=.int .i64 x/\CX X wr p dk s [(yb,a5w 0 0 N v1 v2 v3 v4),(xb,a1P (a1A n8) u fr0 til0)] [(.slice la l.length lc,l)]) (fun vi _ _=>(ti+1-intOf vi).toNat)
   case atStart=>exact⟨from_,by omega,by omega,rfl,HC.out⟩
   case round =>
    obtain⟨x,hx1,hx2,rfl,hcx⟩:=hrel
    replace HC:=a0b hcx
    clear hcx
    obtain⟨q0,q2,s0,s1,s2,s3⟩:=K18.out _ HC.out
    have kx:IntKind.i64.wrap (x+lo)=x+lo:=a0G (by omega) (by omega)
    have kx1:IntKind.i64.wrap (x+1)=x+1:=a0G (by omega) (by omega)
    by_cases hgo:x+lo<=ti/\(N<0\/x<=N)
    ·obtain⟨g1,g2⟩:=hgo
     have FX:=FM.out.2.2 x hx1 g1 g2
     have hxN:x<=N:=by omega
     have PK:=a0b (fun W' (k:Below wr.drew.heap.size wr.drew W')=>b3i W' (.slice la l.length lc) l ((HC.out.drew.later k).ev (List.mem_cons_self ..)) (a6T HC.out.inv HE.out) x (x+lo))
     have EP:Hid (b0g (a1m l) x (x+lo)=a1Q (a1A n8) s.es x (x+lo)):=by
      show _=_
      unfold a1m
      rw[HE.out]
      exact Desk.a5y HC.out.inv (a1A n8) (by omega)
     rw[EP.out] at PK
     have pk0:=b4N HC.out.inv (a1A n8) (a:=x) (b:=x+lo) (by omega)
     have pk1:=b0A HC.out.inv (a1A n8) (a:=x) (b:=x+lo) (by omega)
     have kp:IntKind.i64.wrap (a1Q (a1A n8) s.es x (x+lo)+u)=a1Q (a1A n8) s.es x (x+lo)+u:=a0G (by omega) (by omega)
     have UN:=a0b (fun W'=>a7B A B (a1A n8) (a7y n8) W')
     rw[<- (UA.out n8).1] at UN
     have hfit:∃ bq:Bool,decide (a1Q (a1A n8) s.es x (x+lo)+u<=a0h (a1A n8) s.ts)=bq/\(x==N)=bq:=by
      rw[FX]
      by_cases e:x=N
      ·exact⟨true,by simp[e],by simp[e]⟩
      ·exact⟨false,by simp[e],by simp[e]⟩
     have HFI:=a0b hfit
     clear hfit
     clear FX pk0 pk1 EP
     generalize a1Q (a1A n8) s.es x (x+lo)=pn at PK kp HFI
     generalize a0h (a1A n8) s.ts=un at UN HFI
     have HXd:=a0b HC.out.drew
     have SS:Hid (∀ W',Below wr.drew.heap.size wr.drew W'->W'.cell? ⟨xb,0,none⟩=some (.string (a1A n8))/\W'.cell? ⟨xb,1,none⟩=some (.int .i64 u)/\W'.cell? ⟨Rb,0,none⟩=some (.int .i64 A)/\W'.cell? ⟨Rb,1,none⟩=some (.int .i64 B)):=fun W' k=>⟨a0a k s0,a0a k s1,a0a k s2,a0a k s3⟩
     go_upto_region 21 with fail
     go_region_held3 (fun W'=>W'.cell? ⟨xb,0,none⟩=some (.string (a1A n8))/\W'.cell? ⟨xb,1,none⟩=some (.int .i64 u)/\W'.cell? ⟨Rb,0,none⟩=some (.int .i64 A)/\W'.cell? ⟨Rb,1,none⟩=some (.int .i64 B))
      (first
       |with_reducible exact SS.out _ HB7.out
       |with_reducible exact SS.out _ HB6.out
       |exact⟨s0,s1,s2,s3⟩)
      (first
       |(go_at_call 22;refine (PK.out _ (Below.refl _ _)).mono ?_;rintro e w6 ⟨rfl,hb6⟩;have HB6:=a0b hb6;clear hb6)
       |(go_at_call 23;refine (UN.out _).mono ?_;rintro e w7 ⟨rfl,hb7⟩;have HB7:=a0b (a0j HB6.out hb7 (Nat.le_refl _));clear hb7))
     have HF:=a0b (HXd.out.later HB7.out)
     have q2b:=(K18.out _ HF.out).2.1
     clear SS HB6 HB7 HXd HC PK UN q0 q2 s0 s1 s2 s3
     obtain⟨bq,e1,e2⟩:=HFI.out
     go_upto_region 22 with fail
     rw[e1]
     clear e1 HFI kp
     cases bq
     all_goals
      go_wp2_with fail
      go_roundw
      case rel=>exact⟨x+1,by omega,by omega,rfl,HF.out⟩
      case measure=>simp[intOf];omega
    ·by_cases hx3:x+lo<=ti
     ·have hx4:¬ x<=N:=fun c=>hgo ⟨hx3,.inr c⟩
      go_upto_region 26 with fail
      obtain⟨_,_,c2,c3,cf⟩:=a1y (HC.out.kb (b:=xb) (List.mem_cons_of_mem _ (List.mem_cons_self ..)))
      replace HC:=a0b ((HC.out.less (es':=[]) (fun q hq=>hq) (by simp)).swap)
      go_upto_region 27 with fail
      have HC2:=a0b (HC.out.put' ⟨OX.out.h10,OX.out.x,OX.out.p,fun q hq=>by rw[List.mem_singleton.1 hq];exact HNE.out,fun q hq=>(by cases hq)⟩ (Off.set0 xb wr 2 (.int .i64 N)) (a2A (HC.out.kb (List.mem_cons_self ..)) _))
      clear HC c2 c3 cf q0 q2 s0 s1 s2 s3 hgo K18
      generalize wr.setCell ⟨xb,2,none⟩ (.int .i64 N)=V5 at HC2 ⊢
      change Hid (CX X V5 p dk s [(xb,a1P (a1A n8) u N til0),(yb,a5w 0 0 N v1 v2 v3 v4)] []) at HC2
      obtain⟨_,_,c2,c3,cf⟩:=a1y (HC2.out.kb (List.mem_cons_self ..))
      have q2:=(a2T (HC2.out.kb (b:=yb) (List.mem_cons_of_mem _ (List.mem_cons_self ..)))).2.2.1
      go_upto_region 28 with fail
      have HC3:=a0b (HC2.out.put' ⟨OX.out.h10,OX.out.x,OX.out.p,fun q hq=>by rw[List.mem_singleton.1 hq];exact HNE.out,fun q hq=>(by cases hq)⟩ (Off.set0 xb V5 3 (.int .i64 (N+lo))) (a2A (HC2.out.kb (List.mem_cons_self ..)) _))
      clear HC2 c2 c3 cf q2
      generalize V5.setCell ⟨xb,3,none⟩ (.int .i64 (N+lo))=V6 at HC3 ⊢
      change Hid (CX X V6 p dk s [(xb,a1P (a1A n8) u N (N+lo)),(yb,a5w 0 0 N v1 v2 v3 v4)] []) at HC3
      obtain⟨c0,c1,c2,c3,_⟩:=a1y (HC3.out.kb (List.mem_cons_self ..))
      have BS:=a0b ((Desk.c1u HC3.out.inv (nm:=a1A n8) (u:=u) (fr:=N) (til:=N+lo) (by omega) (by omega) u2 (by omega) (by omega) (by omega) (by omega)).1 m3)
      have TX:=a0b (b5S V6 HC3.out.env (a1A n8) u N (N+lo) (by rw[(a3x n8).s];omega) ⟨by omega,by omega⟩ ⟨by omega,by omega⟩ ⟨by omega,by omega⟩)
      have zk:=b3U (nm:=a1A n8) (u:=u) (fr:=N) (til:=N+lo) (by rw[(a3x n8).s];omega) ⟨by omega,by omega⟩ ⟨by omega,by omega⟩ ⟨by omega,by omega⟩
      have RB:Hid (Reads ((⟨#[98,111,111,107,32]⟩:ByteArray)++c5B (a1A n8) u N (N+lo)) (.iface 148 (.agg #[.string (a1A n8),.int .i64 u,.int .i64 N,.int .i64 (N+lo)]))):=b8N (a3x n8) ⟨by omega,by omega⟩ ⟨by omega,by omega⟩ ⟨by omega,by omega⟩ (by rw[c3J];rfl)
      have LB:Hid (Desk.a1O (.enter 1 (a1A n8) u N (N+lo) 0)):=⟨.inl ⟨rfl,rfl⟩,by omega,by omega,by omega,by omega,by omega,by omega⟩
      have LVB:Hid (LV (.iface 148 (.agg #[.string (a1A n8),.int .i64 u,.int .i64 N,.int .i64 (N+lo)])) (.enter 1 (a1A n8) u N (N+lo) 0)):=.book (a1A n8) (by rw[(a3x n8).s];omega) u N (N+lo)
      generalize hk:c5B (a1A n8) u N (N+lo)=kS at TX RB zk
      clear hk
      go_upto_region 29 with (first
       |(go_at_call 27;refine TX.out.mono ?_;rintro e w15 ⟨rfl,hb15⟩;replace HC3:=a0b (HC3.out.later hb15);clear hb15 TX)
       |(go_at_call 20;refine (CX.line HC3.out RB.out LVB.out LB.out BS.out).mono ?_;rintro e w16 ⟨l9,a1,a2,a3,a4,m9,d1,d2,d3,d4,rfl,_,hc16,_⟩;dsimp only[Desk.a2t,Desk.Rep.num,List.length_nil];have HC4:=a0b hc16;clear hc16))
      change Code.wp _ _ _ _ (w16.alloc (a5w 0 0 (s.given+1) (.slice a1 l9.length d1) (.slice a2 m9 d2) (.slice a3 0 d3) (.slice a4 0 d4)))
      have HC5:=a0b (HC4.out.alloc (a5w 0 0 (s.given+1) (.slice a1 l9.length d1) (.slice a2 m9 d2) (.slice a3 0 d3) (.slice a4 0 d4)))
      have e0:=(a2T (HC5.out.kb (List.mem_cons_self ..))).1
      have HF:Hid (Below w.heap.size w (w16.alloc (a5w 0 0 (s.given+1) (.slice a1 l9.length d1) (.slice a2 m9 d2) (.slice a3 0 d3) (.slice a4 0 d4)))):=HX.out.trans (HC5.out.bl.mono HX.out.size)
      clear HC3 HC4 HC5 DN
      generalize w16.alloc (a5w 0 0 (s.given+1) (.slice a1 l9.length d1) (.slice a2 m9 d2) (.slice a3 0 d3) (.slice a4 0 d4))=V7 at HF e0 ⊢
      go_wp2_with fail
      go_ret
      exact⟨rfl,HF.out⟩
     ·skip
      go_upto_region 26 with fail
      obtain⟨_,_,c2,c3,cf⟩:=a1y (HC.out.kb (b:=xb) (List.mem_cons_of_mem _ (List.mem_cons_self ..)))
      replace HC:=a0b ((HC.out.less (es':=[]) (fun q hq=>hq) (by simp)).swap)
      go_upto_region 27 with fail
      have HC2:=a0b (HC.out.put' ⟨OX.out.h10,OX.out.x,OX.out.p,fun q hq=>by rw[List.mem_singleton.1 hq];exact HNE.out,fun q hq=>(by cases hq)⟩ (Off.set0 xb wr 2 (.int .i64 N)) (a2A (HC.out.kb (List.mem_cons_self ..)) _))
      clear HC c2 c3 cf q0 q2 s0 s1 s2 s3 hgo K18
      generalize wr.setCell ⟨xb,2,none⟩ (.int .i64 N)=V5 at HC2 ⊢
      change Hid (CX X V5 p dk s [(xb,a1P (a1A n8) u N til0),(yb,a5w 0 0 N v1 v2 v3 v4)] []) at HC2
      obtain⟨_,_,c2,c3,cf⟩:=a1y (HC2.out.kb (List.mem_cons_self ..))
      have q2:=(a2T (HC2.out.kb (b:=yb) (List.mem_cons_of_mem _ (List.mem_cons_self ..)))).2.2.1
      go_upto_region 28 with fail
      have HC3:=a0b (HC2.out.put' ⟨OX.out.h10,OX.out.x,OX.out.p,fun q hq=>by rw[List.mem_singleton.1 hq];exact HNE.out,fun q hq=>(by cases hq)⟩ (Off.set0 xb V5 3 (.int .i64 (N+lo))) (a2A (HC2.out.kb (List.mem_cons_self ..)) _))
      clear HC2 c2 c3 cf q2
      generalize V5.setCell ⟨xb,3,none⟩ (.int .i64 (N+lo))=V6 at HC3 ⊢
      change Hid (CX X V6 p dk s [(xb,a1P (a1A n8) u N (N+lo)),(yb,a5w 0 0 N v1 v2 v3 v4)] []) at HC3
      obtain⟨c0,c1,c2,c3,_⟩:=a1y (HC3.out.kb (List.mem_cons_self ..))
      have BS:=a0b ((Desk.c1u HC3.out.inv (nm:=a1A n8) (u:=u) (fr:=N) (til:=N+lo) (by omega) (by omega) u2 (by omega) (by omega) (by omega) (by omega)).1 m3)
      have TX:=a0b (b5S V6 HC3.out.env (a1A n8) u N (N+lo) (by rw[(a3x n8).s];omega) ⟨by omega,by omega⟩ ⟨by omega,by omega⟩ ⟨by omega,by omega⟩)
      have zk:=b3U (nm:=a1A n8) (u:=u) (fr:=N) (til:=N+lo) (by rw[(a3x n8).s];omega) ⟨by omega,by omega⟩ ⟨by omega,by omega⟩ ⟨by omega,by omega⟩
      have RB:Hid (Reads ((⟨#[98,111,111,107,32]⟩:ByteArray)++c5B (a1A n8) u N (N+lo)) (.iface 148 (.agg #[.string (a1A n8),.int .i64 u,.int .i64 N,.int .i64 (N+lo)]))):=b8N (a3x n8) ⟨by omega,by omega⟩ ⟨by omega,by omega⟩ ⟨by omega,by omega⟩ (by rw[c3J];rfl)
      have LB:Hid (Desk.a1O (.enter 1 (a1A n8) u N (N+lo) 0)):=⟨.inl ⟨rfl,rfl⟩,by omega,by omega,by omega,by omega,by omega,by omega⟩
      have LVB:Hid (LV (.iface 148 (.agg #[.string (a1A n8),.int .i64 u,.int .i64 N,.int .i64 (N+lo)])) (.enter 1 (a1A n8) u N (N+lo) 0)):=.book (a1A n8) (by rw[(a3x n8).s];omega) u N (N+lo)
      generalize hk:c5B (a1A n8) u N (N+lo)=kS at TX RB zk
      clear hk
      go_upto_region 29 with (first
       |(go_at_call 27;refine TX.out.mono ?_;rintro e w15 ⟨rfl,hb15⟩;replace HC3:=a0b (HC3.out.later hb15);clear hb15 TX)
       |(go_at_call 20;refine (CX.line HC3.out RB.out LVB.out LB.out BS.out).mono ?_;rintro e w16 ⟨l9,a1,a2,a3,a4,m9,d1,d2,d3,d4,rfl,_,hc16,_⟩;dsimp only[Desk.a2t,Desk.Rep.num,List.length_nil];have HC4:=a0b hc16;clear hc16))
      change Code.wp _ _ _ _ (w16.alloc (a5w 0 0 (s.given+1) (.slice a1 l9.length d1) (.slice a2 m9 d2) (.slice a3 0 d3) (.slice a4 0 d4)))
      have HC5:=a0b (HC4.out.alloc (a5w 0 0 (s.given+1) (.slice a1 l9.length d1) (.slice a2 m9 d2) (.slice a3 0 d3) (.slice a4 0 d4)))
      have e0:=(a2T (HC5.out.kb (List.mem_cons_self ..))).1
      have HF:Hid (Below w.heap.size w (w16.alloc (a5w 0 0 (s.given+1) (.slice a1 l9.length d1) (.slice a2 m9 d2) (.slice a3 0 d3) (.slice a4 0 d4)))):=HX.out.trans (HC5.out.bl.mono HX.out.size)
      clear HC3 HC4 HC5 DN
      generalize w16.alloc (a5w 0 0 (s.given+1) (.slice a1 l9.length d1) (.slice a2 m9 d2) (.slice a3 0 d3) (.slice a4 0 d4))=V7 at HF e0 ⊢
      go_wp2_with fail
      go_ret
      exact⟨rfl,HF.out⟩
 have H14:=a0b h14
 clear h14
 obtain⟨c0,c1,_,_,cf⟩:=a1y (HX12.out.kb (List.mem_cons_self ..))
 obtain⟨ra,rb⟩:=RO.out V12 HX12.out.bl
 have UN:=a0b (fun W'=>a7B A B (a1A n8) (a7y n8) W')
 rw[<- (UA.out n8).1] at UN
 generalize a0h (a1A n8) s.ts=un at UN un1 un9 KK
 have HXd:=a0b HX12.out.drew
 have SS:Hid (∀ W',Below V12.drew.heap.size V12.drew W'->W'.cell? ⟨xb,0,none⟩=some (.string (a1A n8))/\W'.cell? ⟨xb,1,none⟩=some (.int .i64 u)/\W'.cell? ⟨Rb,0,none⟩=some (.int .i64 A)/\W'.cell? ⟨Rb,1,none⟩=some (.int .i64 B)):=fun W' k=>⟨a0a k c0,a0a k c1,a0a k ra,a0a k rb⟩
 go_region_held3 (fun W'=>W'.cell? ⟨xb,0,none⟩=some (.string (a1A n8))/\W'.cell? ⟨xb,1,none⟩=some (.int .i64 u)/\W'.cell? ⟨Rb,0,none⟩=some (.int .i64 A)/\W'.cell? ⟨Rb,1,none⟩=some (.int .i64 B))
  (first
   |with_reducible exact SS.out _ HB12.out
   |exact⟨c0,c1,ra,rb⟩)
  (first
   |(go_at_call 23;refine (UN.out _).mono ?_;rintro e w12 ⟨rfl,hb12⟩;have HB12:=a0b hb12;clear hb12))
 obtain⟨s0,s1,sa,sb⟩:=SS.out _ HB12.out
 have HC:=a0b (HXd.out.later HB12.out)
 clear SS HB12 HXd HX12 c0 c1 ra rb cf
 have cf:=(a1y (HC.out.kb (List.mem_cons_self ..))).2.2.2.2
 by_cases huu:un<u
 ·go_wp2_with (first
   |(go_at_call 23;refine (UN.out _).mono ?_;rintro e w13 ⟨rfl,hb13⟩;replace HC:=a0b (HC.out.later hb13);have s1b:=a0a hb13 s1;have cfb:=(a1y (HC.out.kb (List.mem_cons_self ..))).2.2.2.2;clear hb13))
  have HX13:=a0b (HC.out.put' OX.out (Off.set0 xb w13 1 (.int .i64 un)) (a2A (HC.out.kb (List.mem_cons_self ..)) _))
  exact KK _ _ _ _ _ _ _ _ _ _ _ _ _ _ _ _ _ _ _ _ _ _ _ _ _ _ _ _ _ _ _ _ _ _ _ _ _ _ _ _ _ _ _ _ _ _ _ _ _ _ _ _ _ _ _ _ _ _ _ _ _ _ _ _ _ _ _ _ _ _ _ _ _ _ _ _ _ _ _ _ _ _ _ _ _ _ _ _ _ _ _ _ _ _ _ _ _ _ _ _ _ _ _ _ _ _ _ _ _ _ _ _ _ _ _ _ _ _ _ _ _ _ _ _ _ _ _ _ _ _ _ _ _ _ _ _ _ _ _ _ _ _ _ _ _ _ _ _ _ _ _ _ _ _ _ _ _ _ _ _ _ _ _ _ _ _ _ _ _ _ _ _ _ _ _ _ _ _ _ _ _ _ _ un _ (by omega) (by omega) HX13.out
 ·go_wp2_with fail
  exact KK _ _ _ _ _ _ _ _ _ _ _ _ _ _ _ _ _ _ _ _ _ _ _ _ _ _ _ _ _ _ _ _ _ _ _ _ _ _ _ _ _ _ _ _ _ _ _ _ _ _ _ _ _ _ _ _ _ _ _ _ _ _ _ _ _ _ _ _ _ _ _ _ _ _ _ _ _ _ _ _ _ _ _ _ _ _ _ _ _ _ _ _ _ _ _ _ _ _ _ _ _ _ _ _ _ _ _ _ _ _ _ _ _ _ _ _ _ _ _ _ _ _ _ _ _ _ _ _ _ _ _ _ _ _ _ _ _ _ _ _ _ _ _ _ _ _ _ _ _ _ _ _ _ _ _ _ _ _ _ _ _ _ _ _ _ _ _ _ _ _ _ _ _ _ _ _ _ _ _ _ _ _ _ u _ (by omega) (by omega) HC.out
end Go.Proofs.YtjfkfiffakbagaaGreatDoor
namespace Go.Proofs.YtjfkfiffakbagaaGreatDoor.Laid
def val:DataW Unit->Value
 |.lit (.int k n)=>.int k n
 |.lit (.string b)=>.string ⟨b.toArray⟩
 |_=>.bool false
def row:DataW Unit->List Value
 |.agg l=>l.map val
 |_=>[]
def rows:DataW Unit->List Value
 |.agg l=>l.flatMap row
 |_=>[]
def text:DataW Unit->Value
 |.iface _ (.ptr (.agg [d]))=>val d
 |_=>.bool false
def put(l:List Value):Obj->Obj
 |.cells _ t frozen=>.cells l.toArray t frozen
 |o=>o
def c6N(w:World):World :=
 { w with heap:=(((((((((w.heap.modify 0 (put (row Rows.laid_bookings_calendar_monthDays))).modify 1 (put (row Rows.laid_internal_strconv_uint64pow10))).modify 5 (put [.iface 365 (.pointer (some ⟨w.heap.size,0,none⟩))])).modify 6 (put [.iface 365 (.pointer (some ⟨w.heap.size+1,0,none⟩))])).modify 2 (put (row Rows.laid_bookings_lines_weekdays))).modify 3 (put (row Rows.laid_math_bits_deBruijn32tab))).modify 4 (put (row Rows.laid_math_bits_deBruijn64tab))).modify 8 (put (row Rows.laid_unicode_utf8_first))).modify 9 (put (rows Rows.laid_unicode_utf8_acceptRanges))).push (.cells #[text Rows.laid_strconv_ErrSyntax] 367) |>.push (.cells #[text Rows.laid_strconv_ErrRange] 367) }
theorem met(os:Os):laidMet Tryz.prog Rows.datesRow.laid ((c6N (World.holding Tryz.prog os ⟨#[],#[],[]⟩)).forCall (fun _ _=>0) ⟨#[],#[.slice none 0 0],[]⟩).memory :=
 laidMet_of_run' 8 (by kernel_rfl) (by kernel_rfl)
end Go.Proofs.YtjfkfiffakbagaaGreatDoor.Laid
namespace Go.Proofs.YtjfkfiffakbagaaGreatDoor.datesLaw
open Go.ChangeShapes Go.WideShapes Go.ChangeAt Go.RowKit
theorem own:ownKnob Tryz.prog.godebug=none:=by kernel_rfl
theorem c5b:laidOutB Tryz.prog=true:=by kernel_rfl
def b9r:String:=Rows.datesRow.named.getD 0 Rows.datesRow.func
theorem b8y:Tryz.prog.globalNamed b9r=some 0:=by kernel_rfl
theorem c3e:(Tryz.prog.globals[0]?).map (·.type)=some 199:=by kernel_rfl
theorem c3A:Tryz.prog.cellsOf 199=12:=by kernel_rfl
theorem c3D:Tryz.prog.cellsOf 3=1:=by kernel_rfl
theorem b7n:Tryz.prog.cellsOf 9=1:=by kernel_rfl
theorem table{W:World}(h:laidMetH Tryz.prog Rows.datesRow.laid W):Lib.TabIs Tryz.prog W b9r .i64 [31,28,31,30,31,30,31,31,30,31,30,31] :=
 Lib.tabIs_of_head b8y c3e Tryz.underlying199 Tryz.underlying3 c3D c3A h
theorem tab{W:World}(h:laidMetH Tryz.prog Rows.datesRow.laid W):Tab W :=
 ⟨(table h).cell b8y 0 (by decide),(table h).cell b8y 1 (by decide),(table h).cell b8y 2 (by decide),(table h).cell b8y 3 (by decide),(table h).cell b8y 4 (by decide),(table h).cell b8y 5 (by decide),(table h).cell b8y 6 (by decide),(table h).cell b8y 7 (by decide),(table h).cell b8y 8 (by decide),(table h).cell b8y 9 (by decide),(table h).cell b8y 10 (by decide),(table h).cell b8y 11 (by decide)⟩
end Go.Proofs.YtjfkfiffakbagaaGreatDoor.datesLaw
namespace Go.Proofs.YtjfkfiffakbagaaGreatDoor.EnvLaid
open Go.ChangeShapes Go.WideShapes Go.ChangeAt Go.RowKit
theorem b2G{P:Program}{W:World}{name:String}{k:IntKind}{zs:List Int}{g:Nat}{t e:TypeId}{n:Nat}
  (hg:P.globalNamed name=some g) (hty:(P.globals[g]?).map (·.type)=some t) (ht:P.underlying t=some (.array n e)) (he:P.underlying e=some (.int k)) (hce:P.cellsOf e=1) (hct:P.cellsOf t=n)
  (h:Lib.VarReads P W name (Lib.tabData k zs)):Lib.TabIs P W name k zs:=by
 obtain⟨g',t',cs,fuel,p,hg',ht',hvar,hd⟩:=h
 obtain rfl:=Option.some.inj (hg.symm.trans hg')
 obtain rfl:=Option.some.inj (hty.symm.trans ht')
 unfold Lib.TabIs
 rw[hvar,<- Lib.cells_of_tab ht he hce hct hd]
theorem b9t{P:Program}{W:World}{name:String}{zs:List (List UInt8)}{g:Nat}{t e:TypeId}{n:Nat}
  (hg:P.globalNamed name=some g) (hty:(P.globals[g]?).map (·.type)=some t) (ht:P.underlying t=some (.array n e)) (he:P.underlying e=some .string) (hce:P.cellsOf e=1)
  (h:Lib.VarReads P W name (.agg (zs.map fun z=>.lit (.string z)))) (i:Nat) (z:List UInt8) (hz:zs[i]?=some z):W.cell? ⟨g,i,none⟩=some (.string ⟨z.toArray⟩):=by
 obtain⟨g',t',cs,fuel,p,hg',ht',hvar,hd⟩:=h
 obtain rfl:=Option.some.inj (hg.symm.trans hg')
 obtain rfl:=Option.some.inj (hty.symm.trans ht')
 obtain⟨xs,m,_,hx,_,hxl,hall⟩:=DataW.trod_array ht hd
 have hx1:zs.map (fun z=>(DataW.lit (.string z):DataW Unit))=xs.map (·.1):=by
  have:=congrArg Prod.fst hx
  simpa using this
 have hlen:zs.length=xs.length:=by
  have:=congrArg List.length hx1
  simpa using this
 have hi:i<zs.length:=(List.getElem?_eq_some_iff.1 hz).1
 have hxi:xs[i]?=some xs[i]:=List.getElem?_eq_getElem (by omega)
 have hti:=hall i (by omega)
 rw[hxi,hce] at hti
 obtain⟨s,hs1,hs2,_⟩:=DataW.trod_string he hti
 have h1:(xs.map (·.1))[i]?=some (DataW.lit (.string z):DataW Unit):=by rw[<- hx1];simp[hz]
 have h2:(xs.map (·.1))[i]?=some (DataW.lit (.string s.data.toList):DataW Unit):=by simp[hxi,hs2]
 have h3:z=s.data.toList:=by
  have:=h1.symm.trans h2
  simpa using this
 have h4:cs[i]?=some (.string s):=by
  have:=congrArg (·[0]?) hs1
  simpa[List.getElem?_take,List.getElem?_drop] using this
 rw[World.var?_cell hg hvar i,h4,h3]
theorem c3f:(Tryz.prog.globals[1]?).map (·.type)=some 299:=by kernel_rfl
theorem c3B:Tryz.prog.cellsOf 299=20:=by kernel_rfl
theorem c3z:Tryz.prog.cellsOf 252=1:=by kernel_rfl
theorem c6X : Tryz.prog.globalNamed "bookings/lines.weekdays" = some 2 := by kernel_rfl
theorem c0J:(Tryz.prog.globals[2]?).map (·.type)=some 345:=by kernel_rfl
theorem b8z : Tryz.prog.globalNamed "bookings/calendar.monthDays" = some 0 := by kernel_rfl
theorem c3g:(Tryz.prog.globals[0]?).map (·.type)=some 199:=by kernel_rfl
theorem c3C:Tryz.prog.cellsOf 199=12:=by kernel_rfl
theorem c6I:Tryz.prog.cellsOf 3=1:=by kernel_rfl
theorem b7n:Tryz.prog.cellsOf 9=1:=by kernel_rfl
theorem c6Y {W : World} {l : List (String × DataW Unit)} (hM : laidMet Tryz.prog l W) (hS : W.ShapedOpen Tryz.prog) (m1 : ("bookings/calendar.monthDays", Rows.laid_bookings_calendar_monthDays) ∈ l) (m2 : ("internal/strconv.uint64pow10", Rows.laid_internal_strconv_uint64pow10) ∈ l) (m3 : ("bookings/lines.weekdays", Rows.laid_bookings_lines_weekdays) ∈ l) : Env W := by
 have ht : Lib.VarReads Tryz.prog W "bookings/calendar.monthDays" (Lib.tabData .i64 [31, 28, 31, 30, 31, 30, 31, 31, 30, 31, 30, 31]) := Lib.laidMet.reads hM (d := Rows.laid_bookings_calendar_monthDays) m1
 have hp : Lib.VarReads Tryz.prog W "internal/strconv.uint64pow10" (Lib.tabData .u64 Lib.pow10Tab) := Lib.laidMet.reads hM (d := Rows.laid_internal_strconv_uint64pow10) m2
 have hd : Lib.VarReads Tryz.prog W "bookings/lines.weekdays" (.agg ([[109, 111], [116, 117], [119, 101], [116, 104], [102, 114], [115, 97], [115, 117]].map fun z => .lit (.string z))) := Lib.laidMet.reads hM (d := Rows.laid_bookings_lines_weekdays) m3
 have day:=fun i z hz=>b9t c6X c0J Tryz.underlying345 Tryz.underlying9 b7n hd i z hz
 have tb:=b2G b8z c3g Tryz.underlying199 Tryz.underlying3 c6I c3C ht
 have hsz:10<=W.heap.size:=by
  have h0:(((begin Tryz.prog (fun _ _=>0) default).world.heap[9]?).bind Obj.row?).isSome=true:=by kernel_rfl
  obtain⟨⟨zero,t⟩,h1⟩:=Option.isSome_iff_exists.1 h0
  obtain⟨cs,hh,_⟩:=hS.1 9 zero t (of_decide_eq_true (by kernel_rfl)) h1
  exact (Array.getElem?_eq_some_iff.1 hh).1
 exact⟨⟨tb.cell b8z 0 (by decide),tb.cell b8z 1 (by decide),tb.cell b8z 2 (by decide),tb.cell b8z 3 (by decide),tb.cell b8z 4 (by decide),tb.cell b8z 5 (by decide),tb.cell b8z 6 (by decide),tb.cell b8z 7 (by decide),tb.cell b8z 8 (by decide),tb.cell b8z 9 (by decide),tb.cell b8z 10 (by decide),tb.cell b8z 11 (by decide)⟩,cell_of_shapedOpen_int (zero:=#[.int .i64 0]) (t:=3) hS (of_decide_eq_true (by kernel_rfl)) (by kernel_rfl) rfl (by kernel_rfl) (by kernel_rfl) Tryz.underlying3,
  b2G c6q c3f Tryz.underlying299 Tryz.underlying252 c3z c3B hp,hsz,
  day 0 _ rfl,day 1 _ rfl,day 2 _ rfl,day 3 _ rfl,day 4 _ rfl,day 5 _ rfl,day 6 _ rfl⟩
end Go.Proofs.YtjfkfiffakbagaaGreatDoor.EnvLaid
