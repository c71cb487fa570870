import Derived.Test.YtfigmlfdnickmaaGreatDoorL17
import Derived.RegionTactic
set_option maxRecDepth 100000
set_option maxHeartbeats 8000000
variable{nm s t wE wF wK wT wU x y:ByteArray}{fr k til u:Int}{ws xs:List ByteArray}{acc:List Int}{A F R b i n:Nat}{col:Nat->Option Go.Proofs.YtfigmlfdnickmaaGreatDoor.Col}{o:Go.Obj}{v:Go.Value}{W W' w w' w0:Go.World}
namespace Go.Proofs.YtfigmlfdnickmaaGreatDoor
open Go.RowKit
structure AW(w0:World)(F:Nat)(s:ByteArray)(A R:Nat)(nm:ByteArray)(u fr til:Int)(w:World):Prop where
 fw:FW w0 F s w
 a:w.heap[A]?=some (a1P nm u fr til)
 r:w.heap[R]?=some (a1P ⟨#[]⟩ 0 0 0)
 ar:A≠R
 af:A≠F
 rf:R≠F
 a0:w0.heap.size<=A
 r0:w0.heap.size<=R
 h0:10<=w0.heap.size
theorem AW.drew(h:AW w0 F s A R nm u fr til w):AW w0 F s A R nm u fr til w.drew :=
 ⟨h.fw.drew,h.a,h.r,h.ar,h.af,h.rf,h.a0,h.r0,h.h0⟩
theorem AW.c(h:AW w0 F s A R nm u fr til w):w.cell? ⟨A,0,none⟩=some (.string nm)/\w.cell? ⟨A,1,none⟩=some (.int .i64 u)/\w.cell? ⟨A,2,none⟩=some (.int .i64 fr)/\w.cell? ⟨A,3,none⟩=some (.int .i64 til)/\∀ o,w.frozen? ⟨A,o,none⟩=false:=b1X h.a
theorem AW.rc(h:AW w0 F s A R nm u fr til w):w.cell? ⟨R,0,none⟩=some (.string ⟨#[]⟩)/\w.cell? ⟨R,1,none⟩=some (.int .i64 0)/\w.cell? ⟨R,2,none⟩=some (.int .i64 0)/\w.cell? ⟨R,3,none⟩=some (.int .i64 0)/\∀ o,w.frozen? ⟨R,o,none⟩=false:=b1X h.r
theorem AW.to{nm':ByteArray}{u' fr' til':Int}(h:AW w0 F s A R nm u fr til w)(hw:FW w0 F s w')(k:Off [A] w w')(ha:w'.heap[A]?=some (a1P nm' u' fr' til')):AW w0 F s A R nm' u' fr' til' w' :=
 ⟨hw,ha,(k.block R (Array.getElem?_eq_some_iff.1 h.r).1 (by simp;exact fun e=>h.ar e.symm)).trans h.r,h.ar,h.af,h.rf,h.a0,h.r0,h.h0⟩
theorem AW.name(h:AW w0 F s A R nm u fr til w)(x:ByteArray):AW w0 F s A R x u fr til (w.setCell ⟨A,0,none⟩ (.string x)) :=
 h.to (h.fw.set h.a0 h.af (zt h.h0 h.a0) _ _) (Off.set0 _ _ _ _) (a2A h.a _)
theorem AW.from_(h:AW w0 F s A R nm u fr til w)(x:Int):AW w0 F s A R nm u x til (w.setCell ⟨A,2,none⟩ (.int .i64 x)) :=
 h.to (h.fw.set h.a0 h.af (zt h.h0 h.a0) _ _) (Off.set0 _ _ _ _) (a2A h.a _)
theorem AW.a0Z(h:AW w0 F s A R nm u fr til w)(x:Int):AW w0 F s A R nm u fr x (w.setCell ⟨A,3,none⟩ (.int .i64 x)) :=
 h.to (h.fw.set h.a0 h.af (zt h.h0 h.a0) _ _) (Off.set0 _ _ _ _) (a2A h.a _)
theorem a3B(h:AW w0 F s A R nm u fr til w)(n:Int)(h1:1<=n)(h2:n<=1000):
  Calls Tryz.prog 26 #[.pointer (some ⟨F,0,none⟩),.int .i64 n] w fun e w'=>∃ v,e=.returned (.int .i64 v)/\0<=v/\v<n/\AW w0 F s A R nm u fr til w':=by
 have hf:FW w F s w:=⟨h.fw.fd,h.fw.env,Off.refl _ _,h.fw.ten⟩;refine (a1h hf n h1 h2).mono ?_;rintro e w' ⟨v,rfl,v0,v1,k⟩;refine⟨v,rfl,v0,v1,⟨k.fd,k.env,h.fw.off.trans k.off,k.ten⟩,?_,?_,h.ar,h.af,h.rf,h.a0,h.r0,h.h0⟩
 ·exact (k.off.block A (Array.getElem?_eq_some_iff.1 h.a).1 (by simp;exact h.af)).trans h.a
 ·exact (k.off.block R (Array.getElem?_eq_some_iff.1 h.r).1 (by simp;exact h.rf)).trans h.r
structure b8U(nm:ByteArray)(u fr til:Int):Prop where
 n:nm=⟨#[97]⟩\/nm=⟨#[98]⟩\/nm=⟨#[99]⟩
 u1:1<=u
 u3:u<=3
 f0:0<=fr
 f1:fr<=1048320
 t0:0<=til
 t1:til<=1048320
theorem b0I(h:FW w F s w):
  Calls Tryz.prog 25 #[.pointer (some ⟨F,0,none⟩)] w fun e w'=>∃ nm u fr til,e=.returned (.agg #[.string nm,.int .i64 u,.int .i64 fr,.int .i64 til])/\b8U nm u fr til/\FW w F s w':=by
 have hF:=h.lt;have h10:=h.env.size;have NX:=a0b (fun n h1 h2=>a1h (h.alloc (a1P ⟨#[]⟩ 0 0 0)) n h1 h2);have hr:(w.alloc (a1P ⟨#[]⟩ 0 0 0)).heap[w.heap.size]?=some (a1P ⟨#[]⟩ 0 0 0):=a0p w _
 have ST:Hid (∀ W u,FW w F s W->Off [F] (w.alloc (a1P ⟨#[]⟩ 0 0 0)) W->AW w F s W.heap.size w.heap.size ⟨#[97]⟩ u 0 0 (W.alloc (a1P ⟨#[97]⟩ u 0 0))):=fun W u hW ho=>by
  have hl:w.heap.size<W.heap.size:=zL (by simp) ho.size;have hR:=(ho.block w.heap.size (by simp) (by simp;omega)).trans hr;exact⟨hW.alloc _,a0p W _,(Below.heap_alloc W _ _ hl).trans hR,by omega,by omega,by omega,by omega,Nat.le_refl _,h10⟩
 have NX1:=a0b (fun n h1 h2=>a1h (w0:=w.alloc (a1P ⟨#[]⟩ 0 0 0)) (w:=w.alloc (a1P ⟨#[]⟩ 0 0 0)) (F:=F) (s:=s) ⟨(h.alloc _).fd,(h.alloc _).env,Off.refl _ _,h.ten⟩ n h1 h2);have HH:=a0b h;clear h hr NX
 go_enter Tryz.func25,Tryz.ntmps25
 go_upto_region 1 with fail
 change Code.wp _ _ _ _ (w.alloc (a1P ⟨#[]⟩ 0 0 0))
 go_upto_region 2 with (first
  |(go_at_call 26;refine (NX1.out 3 (by omega) (by omega)).mono ?_;rintro e w1 ⟨v1,rfl,a1,b1,hf1⟩;have k1:IntKind.i64.wrap (1+v1)=1+v1:=a0G (by omega) (by omega)))
 have HA:=a0b (ST.out w1 (1+v1) ⟨hf1.fd,hf1.env,((Off.refl [F] w).alloc _).trans hf1.off,hf1.ten⟩ hf1.off);clear ST NX1 HH;have u1:1<=1+v1:=by omega
 have u3:1+v1<=3:=by omega
 clear hf1 a1 b1 k1;change Code.wp _ _ _ _ (w1.alloc (a1P ⟨#[97]⟩ (1+v1) 0 0));generalize w1.alloc (a1P ⟨#[97]⟩ (1+v1) 0 0)=X1 at HA ⊢;generalize w1.heap.size=A at HA ⊢;generalize 1+v1=u at u1 u3 HA ⊢;generalize w.heap.size=R at HA ⊢
 rename_i K1 h1 K0 h0
 have KK1:∀ (t4 t5 t6 t7 t8 t9 t10 t11:Value) (nm:ByteArray) (W:World),(nm=⟨#[97]⟩\/nm=⟨#[98]⟩)->AW w F s A R nm u 0 0 W->K1 { tmps:=#[.pointer (some ⟨F,0,none⟩),undef,.pointer (some ⟨R,0,none⟩),.pointer (some ⟨A,0,none⟩),t4,t5,t6,t7,t8,t9,t10,t11,undef,undef,undef,undef,undef,undef,undef,undef,undef,undef,undef,undef,undef,undef,undef,undef,undef,undef,undef,undef,undef,undef,undef,undef,undef,undef,undef,undef,undef,undef],defers:=[] } W:=by
  intro t4 t5 t6 t7 t8 t9 t10 t11 nm W hnm hA;refine h1 _ _ ?_;have HA:=a0b hA;clear h1 h0 hA
  go_upto_region 5 with (first
   |(go_at_call 26;refine (a3B HA.out 30 (by omega) (by omega)).mono ?_;rintro e w3 ⟨v3,rfl,a3,b3,ha3⟩;have HA3:=a0b ha3;clear ha3;have k3:IntKind.i64.wrap (5*v3)=5*v3:=a0G (by omega) (by omega);have cf:=HA3.out.c.2.2.2.2;have c2:=HA3.out.c.2.2.1))
  have HB:=a0b (HA3.out.from_ (5*v3));have f0:0<=5*v3:=by omega
  have f1:5*v3<=145:=by omega
  clear HA HA3 k3 cf c2 a3 b3;generalize w3.setCell ⟨A,2,none⟩ (.int .i64 (5*v3))=X3 at HB ⊢;generalize 5*v3=fr at f0 f1 HB ⊢;have HBd:=a0b HB.out.drew;have c2:=HBd.out.c.2.2.1
  go_region_held3 (fun w'=>w'.cell? ⟨A,2,none⟩=some (.int .i64 fr))
   (first
    |exact c2b
    |exact AS _
    |exact c2)
   (first
    |(go_at_call 26;refine (a3B HBd.out 12 (by omega) (by omega)).mono ?_;rintro e w4 ⟨v4,rfl,a4,b4,ha4⟩;have HA4:=a0b ha4;clear ha4;have k4:IntKind.i64.wrap (5*v4)=5*v4:=a0G (by omega) (by omega);have k5:IntKind.i64.wrap (fr+5*v4)=fr+5*v4:=a0G (by omega) (by omega);have c2b:=HA4.out.c.2.2.1;have c3b:=HA4.out.c.2.2.2.1;have cfb:=HA4.out.c.2.2.2.2;have AS:=fun x=>(HA4.out.a0Z x).c.2.2.1))
  have HC:=a0b (HA4.out.a0Z (fr+5*v4));have g0:0<=fr+5*v4:=by omega
  have g1:fr+5*v4<=1000:=by omega
  clear HB HBd c2 HA4 k4 k5 c2b c3b cfb AS a4 b4;generalize w4.setCell ⟨A,3,none⟩ (.int .i64 (fr+5*v4))=X4 at HC ⊢;generalize fr+5*v4=til at g0 g1 HC ⊢
  go_upto_region 6 with fail
  rename_i K2 h2 K3 h3
  have KK2:∀ (t4 t5 t6 t7 t8 t9 t10 t11 t12 t13 t14 t15 t16 t17 t18 t19 t20 t21 t22 t23 t24 t25 t26 t27 t28 t29 t30 t31 t32 t33 t34 t35 t36:Value) (fr til:Int) (W:World),(0<=fr/\fr<=1048320)->(0<=til/\til<=1048320)->AW w F s A R nm u fr til W->K2 { tmps:=#[.pointer (some ⟨F,0,none⟩),undef,.pointer (some ⟨R,0,none⟩),.pointer (some ⟨A,0,none⟩),t4,t5,t6,t7,t8,t9,t10,t11,t12,t13,t14,t15,t16,t17,t18,t19,t20,t21,t22,t23,t24,t25,t26,t27,t28,t29,t30,t31,t32,t33,t34,t35,t36,undef,undef,undef,undef,undef],defers:=[] } W:=by
   intro t4 t5 t6 t7 t8 t9 t10 t11 t12 t13 t14 t15 t16 t17 t18 t19 t20 t21 t22 t23 t24 t25 t26 t27 t28 t29 t30 t31 t32 t33 t34 t35 t36 fr til W hf ht hA;refine h2 _ _ ?_;have HA:=a0b hA;clear h2 h3 hA HC f0 f1 g0 g1
   go_upto_region 9 with fail
   rename_i K4 h4 K5 h5
   have KK4:∀ (t4 t5 t6 t7 t8 t9 t10 t11 t12 t13 t14 t15 t16 t17 t18 t19 t20 t21 t22 t23 t24 t25 t26 t27 t28 t29 t30 t31 t32 t33 t34 t35 t36 t37 t38 t39 t40:Value) (nm:ByteArray) (W:World),(nm=⟨#[97]⟩\/nm=⟨#[98]⟩\/nm=⟨#[99]⟩)->AW w F s A R nm u fr til W->K4 { tmps:=#[.pointer (some ⟨F,0,none⟩),undef,.pointer (some ⟨R,0,none⟩),.pointer (some ⟨A,0,none⟩),t4,t5,t6,t7,t8,t9,t10,t11,t12,t13,t14,t15,t16,t17,t18,t19,t20,t21,t22,t23,t24,t25,t26,t27,t28,t29,t30,t31,t32,t33,t34,t35,t36,t37,t38,t39,t40,undef],defers:=[] } W:=by
    intro t4 t5 t6 t7 t8 t9 t10 t11 t12 t13 t14 t15 t16 t17 t18 t19 t20 t21 t22 t23 t24 t25 t26 t27 t28 t29 t30 t31 t32 t33 t34 t35 t36 t37 t38 t39 t40 nm W hn hA;refine h4 _ _ ?_;obtain⟨c0,c1,c2,c3,cf⟩:=hA.c;obtain⟨r0,r1,r2,r3,rf⟩:=hA.rc
    have HW:Hid (FW w F s ((((W.setCell ⟨R,0,none⟩ (.string nm)).setCell ⟨R,1,none⟩ (.int .i64 u)).setCell ⟨R,2,none⟩ (.int .i64 fr)).setCell ⟨R,3,none⟩ (.int .i64 til))) :=
     (((hA.fw.set hA.r0 hA.rf (zt hA.h0 hA.r0) _ _).set hA.r0 hA.rf (zt hA.h0 hA.r0) _ _).set hA.r0 hA.rf (zt hA.h0 hA.r0) _ _).set hA.r0 hA.rf (zt hA.h0 hA.r0) _ _
    have HK:=a0b (b8U.mk hn u1 u3 hf.1 hf.2 ht.1 ht.2);clear h4 h5 hA HA hf ht hn hnm
    go_wp2_with fail
    exact bodyPost_ret (v:=.agg #[.string nm,.int .i64 u,.int .i64 fr,.int .i64 til]) (by simp[results,Tryz.results25,go_sem,r0,r1,r2,r3]) rfl ⟨_,_,_,_,rfl,HK.out,HW.out⟩
   clear h4;have hn3:nm=⟨#[97]⟩\/nm=⟨#[98]⟩\/nm=⟨#[99]⟩:=by rcases hnm with e|e <;> simp[e]
   clear hnm
   go_upto_region 10 with (first
    |(go_at_call 26;refine (a3B HA.out 20 (by omega) (by omega)).mono ?_;rintro e w7 ⟨v7,rfl,a7,b7,ha7⟩;have HA7:=a0b ha7;clear ha7))
   ·have c0:=HA7.out.c.1;have cf:=HA7.out.c.2.2.2.2;have HA8:=a0b (HA7.out.name ⟨#[99]⟩);clear HA7 HA
    go_wp2_with fail
    exact KK4 _ _ _ _ _ _ _ _ _ _ _ _ _ _ _ _ _ _ _ _ _ _ _ _ _ _ _ _ _ _ _ _ _ _ _ _ _ _ _ (.inr (.inr rfl)) HA8.out
   ·exact KK4 _ _ _ _ _ _ _ _ _ _ _ _ _ _ _ _ _ _ _ _ _ _ _ _ _ _ _ _ _ _ _ _ _ _ _ _ _ _ _ hn3 HA7.out
  go_upto_region 7 with (first
   |(go_at_call 26;refine (a3B HC.out 12 (by omega) (by omega)).mono ?_;rintro e w5 ⟨v5,rfl,a5,b5,ha5⟩;have HA5:=a0b ha5;clear ha5))
  ·have KKt:=KK2;clear KK2 HC h2
   go_upto_region 8 with (first
    |(go_at_call 26;refine (a3B HA5.out 3 (by omega) (by omega)).mono ?_;rintro e w6 ⟨v6,rfl,a6,b6,ha6⟩;have HA6:=a0b ha6;clear ha6;have k6:IntKind.i64.wrap (1048320-v6)=1048320-v6:=a0G (by omega) (by omega);have cf:=HA6.out.c.2.2.2.2;have c3:=HA6.out.c.2.2.2.1))
   have HB6:=a0b (HA6.out.a0Z (1048320-v6));have p0:1048318<=1048320-v6:=by omega
   have p1:1048320-v6<=1048320:=by omega
   clear HA6 HA5 k6 cf c3 a6 b6 a5 b5;generalize w6.setCell ⟨A,3,none⟩ (.int .i64 (1048320-v6))=X6 at HB6 ⊢;generalize 1048320-v6=ti at p0 p1 HB6 ⊢;have HBd:=a0b HB6.out.drew;have c3:=HBd.out.c.2.2.2.1
   go_region_held3 (fun w'=>w'.cell? ⟨A,3,none⟩=some (.int .i64 ti))
    (first
     |exact c3b
     |exact AS _
     |exact c3)
    (first
     |(go_at_call 26;refine (a3B HBd.out 20 (by omega) (by omega)).mono ?_;rintro e w8 ⟨v8,rfl,a8,b8,ha8⟩;have HA8:=a0b ha8;clear ha8;have k8:IntKind.i64.wrap (10*v8)=10*v8:=a0G (by omega) (by omega);have k9:IntKind.i64.wrap (ti-10*v8)=ti-10*v8:=a0G (by omega) (by omega);have c3b:=HA8.out.c.2.2.2.1;have c2b:=HA8.out.c.2.2.1;have cfb:=HA8.out.c.2.2.2.2;have AS:=fun x=>(HA8.out.from_ x).c.2.2.2.1))
   have HA9:=a0b (HA8.out.from_ (ti-10*v8));exact KKt _ _ _ _ _ _ _ _ _ _ _ _ _ _ _ _ _ _ _ _ _ _ _ _ _ _ _ _ _ _ _ _ _ _ _ _ ⟨by omega,by omega⟩ ⟨by omega,by omega⟩ HA9.out
  ·exact KK2 _ _ _ _ _ _ _ _ _ _ _ _ _ _ _ _ _ _ _ _ _ _ _ _ _ _ _ _ _ _ _ _ _ _ _ _ ⟨by omega,by omega⟩ ⟨by omega,by omega⟩ HA5.out
 clear h1
 go_upto_region 3 with (first
  |(go_at_call 26;refine (a3B HA.out 3 (by omega) (by omega)).mono ?_;rintro e w2 ⟨v2,rfl,a2,b2,ha2⟩;have HA2:=a0b ha2;clear ha2))
 ·have c0:=HA2.out.c.1;have cf:=HA2.out.c.2.2.2.2;have HA3:=a0b (HA2.out.name ⟨#[98]⟩);clear HA2 HA
  go_wp2_with fail
  exact KK1 _ _ _ _ _ _ _ _ _ _ (.inr rfl) HA3.out
 ·exact KK1 _ _ _ _ _ _ _ _ _ _ (.inl rfl) HA2.out
open Go
def b0r(n:Nat)(listed:Array Bool):Nat:=((List.range n).filter fun i=>!listed.getD i true).length
theorem b7H{listed:Array Bool}(hs:listed.size=n)(hi:listed.getD i true=false):b0r n (listed.setIfInBounds i true)<b0r n listed:=by
 have hin:i<listed.size:=by
  apply Classical.byContradiction;intro h;rw[Array.getD_eq_getD_getElem?,Array.getElem?_eq_none (by omega)] at hi
  cases hi
 have hg:∀ j,(listed.setIfInBounds i true).getD j true=(decide (j=i) || listed.getD j true):=fun j=>by
  by_cases e:j=i
  ·subst e;simp[Array.getD_eq_getD_getElem?,hin]
  ·have e':¬ i=j:=fun h=>e h.symm
   simp[Array.getD_eq_getD_getElem?,e,e']
 unfold b0r
 have:(List.range n).filter (fun j=>!(listed.setIfInBounds i true).getD j true)=((List.range n).filter fun j=>!listed.getD j true).filter (fun j=>!decide (j=i)):=by
  rw[List.filter_filter]
  congr 1
  funext j
  rw[hg j]
  cases decide (j=i) <;> simp
 rw[this];have hm:i∈(List.range n).filter fun j=>!listed.getD j true:=List.mem_filter.2 ⟨List.mem_range.2 (by omega),by rw[hi];rfl⟩
 exact List.length_filter_lt_length_iff_exists.2 ⟨i,hm,by simp⟩
theorem c0H{listed:Array Bool}(h:i<listed.size)(b c:Bool):listed.getD i b=listed.getD i c:=by
 simp[Array.getD_eq_getD_getElem?,h]
theorem b6T{listed:Array Bool}(h:i<listed.size):(fun j=>(listed.setIfInBounds i true).getD j false)=fun j=>decide (j=i) || listed.getD j false:=by
 funext j
 by_cases e:j=i
 ·subst e;simp[Array.getD_eq_getD_getElem?,h]
 ·have e':¬ i=j:=fun h=>e h.symm
  simp[Array.getD_eq_getD_getElem?,e,e']
section
variable {P:Program}{ops:Array Oper}{Q:Exit->Act->World->Prop}{md:Region.Mode}{n:Nat}
theorem b1f(hn:ops.size=n)(hord:∀ (i:Nat)(o:Oper),ops[i]?=some o->(o.after.all fun e=>!Region.binds md e || decide (e.on<i))=true){listed:Array Bool}(hs:listed.size=n)(hr:Region.ready md ops listed=[]):∀ i,i<n->listed.getD i false=true:=by
 intro i
 induction i using Nat.strongRecOn with
 |_ i ih =>
  intro hi;apply Classical.byContradiction;intro hc;have hc':listed.getD i true=false:=by rw[c0H (by omega) true false];simpa using hc
  obtain⟨o,ho⟩:∃ o,ops[i]?=some o:=⟨_,Array.getElem?_eq_getElem (by omega)⟩
  have hm:i∈Region.ready md ops listed:=by
   refine List.mem_filter.2 ⟨List.mem_range.2 (by omega),?_⟩;rw[hc',ho];have h1:=hord i o ho;rw[Array.all_eq_true'] at h1;show (!false && (o.after.all fun e=>!Region.binds md e || listed.getD e.on false))=true;rw[Bool.not_false,Bool.true_and,Array.all_eq_true'];intro e he;have h2:=h1 e he
   cases hb:Region.binds md e
   ·rfl
   ·rw[hb] at h2;have h3:e.on<i:=by simpa using h2
    rw[ih e.on h3 (by omega)];rfl
  rw[hr] at hm
  cases hm
def a9X(md:Region.Mode)(ops:Array Oper)(L:Nat->Bool):Prop:=∀ (i:Nat)(o:Oper),ops[i]?=some o->L i=true->(o.after.all fun e=>!Region.binds md e || L e.on)=true
theorem a9X.more{L:Nat->Bool}(h:a9X md ops L){o:Oper}(ho:ops[i]?=some o)(hd:(o.after.all fun e=>!Region.binds md e || L e.on)=true):a9X md ops (fun j=>decide (j=i) || L j):=by
 intro j q hq hj
 have up:∀ (q:Oper),(q.after.all fun e=>!Region.binds md e || L e.on)=true->(q.after.all fun e=>!Region.binds md e || (decide (e.on=i) || L e.on))=true:=fun q hq=>by
  rw[Array.all_eq_true'] at hq ⊢;intro e he;have:=hq e he
  cases hb:Region.binds md e
  ·rfl
  ·rw[hb] at this;have h1:L e.on=true:=by simpa using this
   rw[h1];simp
 by_cases e:j=i
 ·subst e;rw[ho] at hq
  cases hq
  exact up o hd
 ·have:L j=true:=by simpa[e] using hj
  exact up q (h j q hq this)
theorem b8W(hn:ops.size=n)(hord:∀ (i:Nat)(o:Oper),ops[i]?=some o->(o.after.all fun e=>!Region.binds md e || decide (e.on<i))=true)(I:(Nat->Bool)->Act->World->Prop)
  (hstep:∀ (L:Nat->Bool) (a:Act) (w:World) (i:Nat) (o:Oper),a9X md ops L->I L a w->ops[i]?=some o->L i=false->(o.after.all fun e=>!Region.binds md e || L e.on)=true->∀ K:Act->World->Prop,(∀ a' w',I (fun j=>decide (j=i) || L j) a' w'->K a' w')->if Region.wanted o (yielded ops a.tmps)=true then Oper.wp P o a w K Q else K (a.put o.dst undef) w)
  (hdone:∀ (L:Nat->Bool) (a:Act) (w:World),(∀ i,i<n->L i=true)->I L a w->Q .normal a w):
  ∀ (fuel:Nat) (listed:Array Bool) (a:Act) (w:World),listed.size=n->b0r n listed<=fuel->a9X md ops (fun j=>listed.getD j false)->I (fun j=>listed.getD j false) a w->wpAny P md ops Q fuel listed a w:=by
 intro fuel
 induction fuel with
 |zero =>
  intro listed a w hs ht hcl hI
  have hr:Region.ready md ops listed=[]:=by
   apply Classical.byContradiction;intro hne;obtain⟨i,hi⟩:=List.exists_mem_of_ne_nil _ hne;obtain⟨h1,h2⟩:=List.mem_filter.1 hi
   have h3:listed.getD i true=false:=by
    rw[Bool.and_eq_true] at h2
    simpa using h2.1
   have:i∈(List.range n).filter fun i=>!listed.getD i true:=List.mem_filter.2 ⟨by rw[<- hn];exact h1,by rw[h3];rfl⟩
   have:=List.length_pos_of_mem this;unfold b0r at ht;omega
  exact⟨hr,hdone _ _ _ (b1f hn hord hs hr) hI⟩
 |succ fuel ih =>
  intro listed a w hs ht hcl hI;refine⟨fun hr=>hdone _ _ _ (b1f hn hord hs hr) hI,fun i hi=>?_⟩;obtain⟨h1,h2⟩:=List.mem_filter.1 hi;have hin:i<n:=by rw[<- hn];exact List.mem_range.1 h1
  rw[Bool.and_eq_true] at h2;have h3:listed.getD i true=false:=by simpa using h2.1
  obtain⟨o,ho⟩:∃ o,ops[i]?=some o:=⟨_,Array.getElem?_eq_getElem (by omega)⟩
  have h4:(o.after.all fun e=>!Region.binds md e || listed.getD e.on false)=true:=by
   have:=h2.2;rw[ho] at this;exact this
  refine wpOp_step ho (fun K hK=>hstep _ a w i o hcl hI ho ?_ h4 K (fun a' w' hI'=>hK _ _ (ih _ _ _ (by simpa using hs) ?_ ?_ ?_)))
  ·rw[<- c0H (by omega) true false];exact h3
  ·have:=b7H hs h3;omega
  ·rw[b6T (by omega)];exact hcl.more ho h4
  ·rw[b6T (by omega)];exact hI'
theorem b6C(n:Nat):(fun j=>(Array.replicate n false).getD j false)=fun _=>false:=by
 funext j
 by_cases h:j<n <;> simp[Array.getD_eq_getD_getElem?,h]
theorem a6t{id:Nat}{a:Act}(hm:P.follows .mixedOrders=true)(hord:∀ (i:Nat)(o:Oper),ops[i]?=some o->(o.after.all fun e=>!Region.binds .any e || decide (e.on<i))=true)(I:(Nat->Bool)->Act->World->Prop)(h0:I (fun _=>false) a w.drew)
  (hstep:∀ (L:Nat->Bool) (a:Act) (w:World) (i:Nat) (o:Oper),a9X .any ops L->I L a w->ops[i]?=some o->L i=false->(o.after.all fun e=>!Region.binds .any e || L e.on)=true->∀ K:Act->World->Prop,(∀ a' w',I (fun j=>decide (j=i) || L j) a' w'->K a' w')->if Region.wanted o (yielded ops a.tmps)=true then Oper.wp P o a w K Q else K (a.put o.dst undef) w)
  (hdone:∀ (L:Nat->Bool) (a:Act) (w:World),(∀ i,i<ops.size->L i=true)->I L a w->Q .normal a w):(Code.region id ops true).wp P Q a w:=by
 refine wp_region_any hm (b8W rfl hord I hstep hdone ops.size (Array.replicate ops.size false) a _ (by simp) ?_ ?_ ?_)
 ·unfold b0r;exact zt (List.length_filter_le _ _) (by simp)
 ·rw[b6C];intro i o _ h;cases h
 ·rw[b6C];exact h0
end
theorem FW.self(h:FW w0 F s w):FW w F s w:=⟨h.fd,h.env,Off.refl _ _,h.ten⟩
theorem FW.back(h:FW w0 F s w)(k:FW w F s w'):FW w0 F s w':=⟨k.fd,k.env,h.off.trans k.off,k.ten⟩
theorem c5s(args:Array Value)(w:World):(callFunc 26 args).run Tryz.prog w=.ok (.enter 26 args) w:=enters_of Tryz.func26 (by kernel_rfl) rfl args w
theorem c5q(args:Array Value)(w:World):(callFunc 49 args).run Tryz.prog w=.ok (.enter 49 args) w:=enters_of Tryz.func49 (by kernel_rfl) rfl args w
def c0h : Oper := { dst := some 56, op := Op.buildSlice 26 2 #[(0, Operand.const (Value.string { data := #[97, 32, 49, 32] })), (1, Operand.const (Value.string { data := #[98, 32, 50, 32] }))], type := 26, pos := "build.go:117", after := #[], guard := none }
def c0g : Oper := { dst := some 57, op := Op.move (Operand.tmp 0), type := 45, pos := "build.go:117", after := #[], guard := none }
def b6x : Oper := { dst := some 58, op := Op.call { callee := Callee.value (Operand.func 26), args := #[Operand.tmp 57, Operand.const (Value.int IntKind.i64 2)], argTypes := #[45, 3] }, type := 3, pos := "build.go:117", after := #[{ on := 1, ground := Ground.data }], guard := none }
def b6w : Oper := { dst := some 59, op := Op.indexAddr 26 (Operand.tmp 56) (Operand.tmp 58), type := 0, pos := "build.go:117", after := #[{ on := 0, ground := Ground.data }, { on := 2, ground := Ground.data }], guard := none }
def b6v : Oper := { dst := some 60, op := Op.load 9 (Operand.tmp 59), type := 9, pos := "build.go:117", after := #[{ on := 3, ground := Ground.data }], guard := none }
def b6u : Oper := { dst := some 61, op := Op.binOp BinOp.add 9 (Operand.const (Value.string { data := #[115, 101, 114, 105, 101, 115, 32] })) (Operand.tmp 60) 9, type := 9, pos := "build.go:117", after := #[{ on := 4, ground := Ground.data }], guard := none }
def c0f : Oper := { dst := some 62, op := Op.move (Operand.tmp 0), type := 45, pos := "build.go:117", after := #[], guard := none }
def b6t : Oper := { dst := some 63, op := Op.call { callee := Callee.value (Operand.func 49), args := #[Operand.tmp 62], argTypes := #[45] }, type := 9, pos := "build.go:117", after := #[{ on := 6, ground := Ground.data }, { on := 2, ground := Ground.chain }], guard := none }
def b6s : Oper := { dst := some 64, op := Op.binOp BinOp.add 9 (Operand.tmp 61) (Operand.tmp 63) 9, type := 9, pos := "build.go:117", after := #[{ on := 5, ground := Ground.data }, { on := 7, ground := Ground.data }], guard := none }
def b6r : Oper := { dst := some 2, op := Op.assign (Operand.tmp 64), type := 9, pos := "build.go:117", after := #[{ on := 8, ground := Ground.data }, { on := 7, ground := Ground.chain }, { on := 0, ground := Ground.phase }, { on := 1, ground := Ground.phase }, { on := 2, ground := Ground.phase }, { on := 3, ground := Ground.phase }, { on := 4, ground := Ground.phase }, { on := 5, ground := Ground.phase }, { on := 6, ground := Ground.phase }, { on := 7, ground := Ground.phase }, { on := 8, ground := Ground.phase }], guard := none }
def c3W:Array Oper:=#[c0h,c0g,b6x,b6w,b6v,b6u,c0f,b6t,b6s,b6r]
theorem a7L(h:FW w0 F s w):
  Calls Tryz.prog 25 #[.pointer (some ⟨F,0,none⟩)] w fun e w'=>∃ nm u fr til,e=.returned (.agg #[.string nm,.int .i64 u,.int .i64 fr,.int .i64 til])/\b8U nm u fr til/\FW w0 F s w' :=
 (b0I h.self).mono fun _ _ ⟨nm,u,fr,til,e,a,k⟩=>⟨nm,u,fr,til,e,a,h.back k⟩
theorem b8U.size(h:b8U nm u fr til):nm.size<=10:=by
 rcases h.n with rfl|rfl|rfl <;> decide
open Desk (Ent St Ids kept a0C a0Q a1C a2e ofB a0y a2c Mid a1H a0z Inv a0h a2x a1q Rep)
theorem c2p(a b:Int)(w:World)(ha1:-9223372036854775808<=a)(ha2:a<=9223372036854775807)(hb1:-9223372036854775808<=b)(hb2:b<=9223372036854775807):
  Calls Tryz.prog 17 #[.int .i64 a,.int .i64 b] w fun e w'=>e=.returned (.agg #[.int .i64 (1+a2s a 4),.int .i64 (1+a2s b 9)])/\Below w.heap.size w w':=by
 obtain⟨x1,x2⟩:=a6G (c:=a) (n:=4) (by omega);obtain⟨y1,y2⟩:=a6G (c:=b) (n:=9) (by omega);have k1:IntKind.i64.wrap (1+a2s a 4)=1+a2s a 4:=a0G (by omega) (by omega);have k2:IntKind.i64.wrap (1+a2s b 9)=1+a2s b 9:=a0G (by omega) (by omega);have hq:(w.alloc (a1T 0 0)).heap[w.heap.size]?=some (a1T 0 0):=a0p w _;have kb:Below w.heap.size w (w.alloc (a1T 0 0)):=(zr _ _).alloc (zq _) _;have hc:=b0q (x:=.int .i64 0) (y:=.int .i64 0) hq;obtain⟨c0,c1,cf⟩:=hc
 have HF:Hid (Below w.heap.size w (((w.alloc (a1T 0 0)).setCell ⟨w.heap.size,0,none⟩ (.int .i64 (1+a2s a 4))).setCell ⟨w.heap.size,1,none⟩ (.int .i64 (1+a2s b 9)))):=by
  have k:=(Off.set0 w.heap.size (w.alloc (a1T 0 0)) 0 (.int .i64 (1+a2s a 4))).setCell (R:=w.heap.size) (.inl (by simp)) 1 (.int .i64 (1+a2s b 9));exact⟨k.os.trans kb.os,k.tape.trans kb.tape,k.output.trans kb.output,Nat.le_trans kb.size k.size,fun x hx=>(k.block x (zL hx kb.size) (by simp;omega)).trans (kb.block x hx)⟩
 clear hq kb
 go_enter Tryz.func17,Tryz.ntmps17
 go_upto_region 1 with fail
 change Code.wp _ _ _ _ (w.alloc (a1T 0 0));generalize w.alloc (a1T 0 0)=X at *
 go_wp2_with (first
  |(go_at_call 38;refine (b9M _ _ _ (by assumption) (by assumption) (by omega) (by omega)).mono ?_;rintro e w' ⟨rfl,rfl⟩))
 exact bodyPost_ret (v:=.agg #[.int .i64 (1+a2s a 4),.int .i64 (1+a2s b 9)]) (by simp[results,Tryz.results17,go_sem,c0,c1]) rfl ⟨rfl,HF.out⟩
structure TV(w:World)(v:Value)(ss:List ByteArray):Prop where
 form:∃ a cap,v=.slice a ss.length cap
 cell:∀ (i:Nat) (hi:i<ss.length),∃ b off cap,v=.slice (some ⟨b,off,none⟩) ss.length cap/\w.cell? ⟨b,off+i,none⟩=some (.string ss[i])
 size:∀ x∈ss,x.size<=9223372036854775807
 len:ss.length<=9223372036854775807
theorem TV.below{ss:List ByteArray}(h:TV w v ss)(k:Below w.heap.size w w'):TV w' v ss :=
 ⟨h.form,fun i hi=>by
  obtain⟨b,off,cap,e,a⟩:=h.cell i hi
  exact⟨b,off,cap,e,a0a k a⟩,h.size,h.len⟩
def a8o(s:ByteArray)(a:Int):Obj:=.cells #[.string s,.int .i64 a] 47 (0,0)
open Desk (Ent St Ids kept a0C a0Q a1C a2e ofB a0y a2c Mid a1H a0z Inv a0h a2x a1q Rep a1Q)
structure KB(W:World)(col:Nat->Option Col)(b:Nat)(o:Obj):Prop where
 h:W.heap[b]?=some o
 c:col b=none
theorem KB.later(h:KB W col b o)(k:Below W.heap.size W W'):KB W' col b o:=⟨(k.block b (Array.getElem?_eq_some_iff.1 h.h).1).trans h.h,h.c⟩
theorem KB.step{col':Nat->Option Col}(h:KB W col b o)(st:Step anyS W.heap.size col col' W W'):KB W' col' b o:=by
 obtain⟨x,y⟩:=st.still h.h h.c;exact⟨x,y⟩
def a1A(i:Nat):ByteArray:=if i=0 then ⟨#[97]⟩ else ⟨#[98]⟩
theorem a7y(i:Nat):a1A i=⟨#[97]⟩\/a1A i=⟨#[98]⟩:=by unfold a1A;split <;> simp
theorem b2x{a b:Int}(ha:1<=a)(hb:1<=b)(i:Nat):a0h (a1A i) (a3Z a b).ts≠0:=by
 rcases a7y i with e|e <;> rw[e]
 ·have:=b9b a b;unfold nmA at this;rw[this];omega
 ·have:=b9a a b;unfold nmC at this;rw[this];omega
namespace Rd
end Rd
theorem f7Q{n:Int}(h0:1<=n)(h1:n<=99):evB (Txt.a0x n)=true/\nvF (Txt.a0x n)=n/\Txt.a3V (Txt.a0x n).data.toList=true:=by
 obtain⟨a,b⟩:=Txt.b6O (n:=n) (by omega) (by omega);refine⟨?_,b,Txt.b3l (by omega)⟩;unfold evB a0K;rw[a,b];simp[h0,h1]
theorem e6p:Txt.a3V a7M.data.toList=true/\Txt.a3V b0Y.data.toList=true/\Txt.a3V a8D.data.toList=true/\Txt.a3V a8w.data.toList=true/\Txt.a3V a1t.data.toList=true/\Txt.a3V atW.data.toList=true/\Txt.a3V b3z.data.toList=true/\Txt.a3V b2z.data.toList=true:=by decide +kernel
namespace Rd
end Rd
open Desk (Ent St Inv a0h a2x a1q Rep a1e)
theorem e6R{c:UInt8}{l:List UInt8}(hl:s.data.toList=l)(hc:l[i]?=some c)(h:Txt.a0V s i=n):c.toNat=n:=by
 unfold Txt.a0V at h;rw[hl,List.getD_eq_getElem?_getD,hc] at h;simp at h;omega
theorem e1P{c:UInt8}(h:c.toNat=n)(hn:n<256):c=UInt8.ofNat n:=by
 apply UInt8.toNat_inj.1;rw[h,UInt8.toNat_ofNat'];omega
theorem d6r(s:ByteArray)(a b n:Nat)(hs:min b s.size-a=n+1)(h:Txt.isNum (Txt.part s a b)=true):Txt.b8V (Txt.a2f (Txt.part s a b)) (n+1)=s.extract a b:=by
 have hz:(s.extract a b).size=n+1:=b2K s a b (n+1) hs;have hd:=Txt.a7C h;have e:Txt.a2f (Txt.part s a b)=Txt.b4R (s.extract a b).data.toList:=by unfold Txt.a2f;rw[if_pos h];rfl
 rw[e];exact Txt.f6E _ n hz hd
theorem e5c(w:ByteArray)(h:Txt.a2y w=true):d0L (b0a w)=w:=by
 have hd:Txt.a5j w=true:=by
  unfold Txt.a2y at h;exact (of_decide_eq_true h).1
 have e:b0a w=Cal.num (Txt.a2f (Txt.part w 0 4)) (Txt.a2f (Txt.part w 5 7)) (Txt.a2f (Txt.part w 8 10)):=by
  unfold b0a Txt.a2o;rw[if_pos h,if_pos hd]
 unfold Txt.a5j at hd;obtain⟨hs,b4,b7,n0,n1,n2,hok⟩:=of_decide_eq_true hd;obtain⟨ey,em,ed⟩:=Cal.c4g _ _ _ _ hok e.symm;unfold d0L;rw[<- ey,<- em,<- ed];unfold f4t;rw[d6r w 0 4 3 (by omega) n0,d6r w 5 7 1 (by omega) n1,d6r w 8 10 1 (by omega) n2];apply Txt.a7x;simp only[Txt.a1X,Txt.a3g];have hl:w.data.toList.length=10:=by rw[Txt.a1d];exact hs
 obtain⟨l,hw⟩:∃ l,w.data.toList=l:=⟨_,rfl⟩;rw[hw] at hl;rw[hw]
 match l,hl,hw with
 |[a0,a1,a2,a3,a4,a5,a6,a7,a8,a9],_,hw =>
  have e4:=e1P (e6R (i:=4) (c:=a4) hw rfl (n:=45) b4) (by omega);have e7:=e1P (e6R (i:=7) (c:=a7) hw rfl (n:=45) b7) (by omega);rw[e4,e7];rfl
theorem f6M(w:ByteArray)(h:Txt.a3a w=true):d8f (Txt.a6J w)=w:=by
 have e:Txt.a6J w=Txt.a2f (Txt.part w 0 2)*60+Txt.a2f (Txt.part w 3 5):=by unfold Txt.a6J;rw[if_pos h]
 unfold Txt.a3a at h;obtain⟨hs,b2,n0,n1,h23,h59⟩:=of_decide_eq_true h;have q0:=Txt.a2B (Txt.part w 0 2);have q1:=Txt.a2B (Txt.part w 3 5);have e1:Txt.a6J w / 60=Txt.a2f (Txt.part w 0 2):=by rw[e];omega
 have e2:Txt.a6J w % 60=Txt.a2f (Txt.part w 3 5):=by rw[e];omega
 unfold d8f;rw[e1,e2,d6r w 0 2 1 (by omega) n0,d6r w 3 5 1 (by omega) n1];apply Txt.a7x;simp only[Txt.a1X,Txt.a3g];have hl:w.data.toList.length=5:=by rw[Txt.a1d];exact hs
 obtain⟨l,hw⟩:∃ l,w.data.toList=l:=⟨_,rfl⟩;rw[hw] at hl;rw[hw]
 match l,hl,hw with
 |[a0,a1,a2,a3,a4],_,hw =>
  have e2:=e1P (e6R (i:=2) (c:=a2) hw rfl (n:=58) b2) (by omega);rw[e2];rfl
theorem f2q(sep:List UInt8)(r:List (List UInt8))(x:List UInt8):Lib.joinTail sep (r++[x])=Lib.joinTail sep r++(sep++x):=by
 simp[Lib.joinTail]
theorem d7m(acc:List Int):∀ k:Nat,(d5A acc k).data.toList=Lib.joinTail [44] ((onL acc k).map (·.data.toList))
 |0=>rfl
 |k+1=>by
  have ih:=d7m acc k;unfold d5A onL
  split
  ·rw[List.map_append,List.map_cons,List.map_nil,f2q,Txt.a1X,Txt.a1X,ih];simp
  ·exact ih
theorem f3O(L:List (List UInt8)):Lib.join L [44]=(Lib.joinTail [44] L).drop 1:=by
 cases L with
 |nil=>rfl
 |cons x r=>rw[Lib.join_cons];simp[Lib.joinTail]
theorem f9C(acc:List Int):Lib.join ((onL acc 7).map (·.data.toList)) [44]=(onT acc).data.toList:=by
 unfold onT;rw[Txt.a3g,f3O,<- d7m];rw[List.take_of_length_le (by rw[Txt.a1d];exact zq _)]
theorem g1f(h:Txt.onW s=some acc):onL acc 7≠[]:=by
 intro e;have h1:=g1e h;have h2:=d7m acc 7;rw[e] at h2;have h3:=Txt.a1d (d5A acc 7);rw[h2] at h3;have:(Lib.joinTail [44] (([]:List ByteArray).map (·.data.toList))).length=0:=rfl;omega
theorem f3e(acc:List Int):(Lib.join ((onL acc 7).map (·.data.toList)) [44]).length<=160:=by
 rw[f9C,Txt.a1d];unfold onT;have e:((d5A acc 7).extract 1 (d5A acc 7).size).size=min (d5A acc 7).size (d5A acc 7).size-1:=ByteArray.size_extract ..;have:=e0W acc 7;omega
theorem f3N:∀ L:List (List UInt8),Lib.join L [32]=Txt.jb L
 |[]=>rfl
 |[x]=>by rw[Lib.join_one,Txt.b3k]
 |x :: y :: r=>by
  rw[Txt.a6Q,<- f3N (y :: r)];simp[Lib.join,List.intercalate,List.intersperse]
theorem d5Q(xs:List ByteArray):(jn xs).data.toList=Txt.jb (xs.map (·.data.toList)):=by
 unfold jn;rw[List.toList_toArray,f3N]
theorem f7c(h:∀ x∈xs,Txt.a3V x.data.toList=true):Txt.a1v (jn xs)=xs:=Txt.a5p (d5Q xs) h
structure e3n(t:ByteArray)(ws xs:List ByteArray)(v:Value):Prop where
 wd:Txt.a1v t=ws
 sz:t.size<=78
 ln:a2H ws v (ws.length,false)
 pw:PW v xs
 lx:a2H xs v (xs.length,false)
 wx:∀ x∈xs,Txt.a3V x.data.toList=true
 x0:0<xs.length
 x1:xs.length<=20
 js:(jn xs).size<=160
 tg:c2h v∈d2B
def Made(t:ByteArray):Prop:=∃ ws xs v,e3n t ws xs v
theorem e3n.odd{o:ByteArray}(h:e3n t ws xs v)(ho:e3l t.data.toList o.data.toList):Reads o v :=
 a5G ((e3l.words ho).trans h.wd) (by
  have:=ho.len;rw[Txt.a1l,Txt.a1l] at this;have:=h.sz
  omega) h.ln rfl
theorem e3n.plain(h:e3n t ws xs v):Reads (jn xs) v:=a5G (f7c h.wx) h.js h.lx rfl
theorem e3n.line(h:e3n t ws xs v):∃ l,LV v l/\Desk.a1O l:=c0v h.ln rfl
theorem e3n.some(h:e3n t ws xs v):0<(jn xs).size:=by
 rw[<- Txt.a1l,d5Q];have:=h.x0
 match xs,this,h.wx with
 |x :: r,_,hw =>
  have hx:=(Txt.a8C.1 (hw x (by simp))).1;have:0<x.data.toList.length:=List.length_pos_iff.2 hx;simp only[List.map_cons,Txt.jb,List.length_append];omega
theorem d9k(ht:t.data.toList=Txt.jb (ws.map (·.data.toList)))(hw:∀ x∈ws,Txt.a3V x.data.toList=true)(hs:t.size<=78)(hl:a2H ws v (ws.length,false))(hp:PW v ws)(h0:0<ws.length)(h1:ws.length<=20)(tg:c2h v∈d2B):Made t :=
 ⟨ws,ws,v,Txt.a5p ht hw,hs,hl,hp,hl,hw,h0,h1,by
  have e:jn ws=t:=Txt.a7x ((d5Q ws).trans ht.symm);rw[e]
  omega,tg⟩
theorem e5h(hW:ws=[a9P,nm,wU,wF,wT])(hn:nmB nm=true)(hu:unB wU=true)(hf:a0n wF=true)(ht:a0n wT=true):
  a2H ws (.iface 154 (.agg #[.string nm,.int .i64 (nvF wU),.int .i64 (a1J wF),.int .i64 (a1J wT)])) (5,false):=by
 have t1:=takes (ws:=ws) (n:=1) (x:=nm) (B:=nmB) (by rw[hW];rfl) hn;have t2:=takes (ws:=ws) (n:=2) (x:=wU) (B:=unB) (by rw[hW];rfl) hu;have t3:=takes (ws:=ws) (n:=3) (x:=wF) (B:=a0n) (by rw[hW];rfl) hf;have t4:=takes (ws:=ws) (n:=4) (x:=wT) (B:=a0n) (by rw[hW];rfl) ht;have h:=a2H.book (ws:=ws) (b1P (by rw[hW];rfl));simp only[a4T,a6y,t1.1,t2.1,t2.2,t3.1,t3.2,t4.1,t4.2,a8A (ws:=ws) (n:=1) (by rw[hW];rfl) hn] at h;exact h
theorem e4E(hW:ws=[b5f,nm,wU,wF,wT,wK])(hn:nmB nm=true)(hu:unB wU=true)(hf:a0n wF=true)(ht:a0n wT=true)(hk:miB wK=true):
  a2H ws (.iface 156 (.agg #[.string nm,.int .i64 (nvF wU),.int .i64 (a1J wF),.int .i64 (a1J wT),.int .i64 (nvF wK)])) (6,false):=by
 have t1:=takes (ws:=ws) (n:=1) (x:=nm) (B:=nmB) (by rw[hW];rfl) hn;have t2:=takes (ws:=ws) (n:=2) (x:=wU) (B:=unB) (by rw[hW];rfl) hu;have t3:=takes (ws:=ws) (n:=3) (x:=wF) (B:=a0n) (by rw[hW];rfl) hf;have t4:=takes (ws:=ws) (n:=4) (x:=wT) (B:=a0n) (by rw[hW];rfl) ht;have t5:=takes (ws:=ws) (n:=5) (x:=wK) (B:=miB) (by rw[hW];rfl) hk;have h:=a2H.hold (ws:=ws) (b1P (by rw[hW];rfl));simp only[a4T,a6y,t1.1,t2.1,t2.2,t3.1,t3.2,t4.1,t4.2,t5.1,t5.2,a8A (ws:=ws) (n:=1) (by rw[hW];rfl) hn] at h;exact h
theorem e3x(hW:ws=[b4k,nm,wU,wF,wT,wK])(hn:nmB nm=true)(hu:unB wU=true)(hf:a0n wF=true)(ht:a0n wT=true)(hk:miB wK=true):
  a2H ws (.iface 157 (.agg #[.string nm,.int .i64 (nvF wU),.int .i64 (a1J wF),.int .i64 (a1J wT),.int .i64 (nvF wK)])) (6,false):=by
 have t1:=takes (ws:=ws) (n:=1) (x:=nm) (B:=nmB) (by rw[hW];rfl) hn;have t2:=takes (ws:=ws) (n:=2) (x:=wU) (B:=unB) (by rw[hW];rfl) hu;have t3:=takes (ws:=ws) (n:=3) (x:=wF) (B:=a0n) (by rw[hW];rfl) hf;have t4:=takes (ws:=ws) (n:=4) (x:=wT) (B:=a0n) (by rw[hW];rfl) ht;have t5:=takes (ws:=ws) (n:=5) (x:=wK) (B:=miB) (by rw[hW];rfl) hk;have h:=a2H.wait (ws:=ws) (b1P (by rw[hW];rfl));simp only[a4T,a6y,t1.1,t2.1,t2.2,t3.1,t3.2,t4.1,t4.2,t5.1,t5.2,a8A (ws:=ws) (n:=1) (by rw[hW];rfl) hn] at h;exact h
theorem f8T(h:b8U nm u fr til):Nm nm:=by
 rcases h.n with rfl|rfl|rfl
 ·exact c7k
 ·exact c7j
 ·exact g3c
theorem f3E(h:b8U nm u fr til):Made ((⟨#[98,111,111,107,32]⟩:ByteArray)++c5B nm u fr til):=by
 have a1:=h.u1;have a2:=h.u3;have a3:=h.f0;have a4:=h.f1;have a5:=h.t0;have a6:=h.t1;have hn:=f8T h;obtain⟨u1,u2,u3⟩:=c5P (n:=u) (by omega) (by omega);obtain⟨f1,f2,f3⟩:=b1q a3 a4;obtain⟨l1,l2,l3⟩:=b1q a5 a6;obtain⟨g1,g2,g3,g4⟩:=d8q a3 a4;obtain⟨m1,m2,m3,m4⟩:=d8q a5 a6;have hs:=b3U (nm:=nm) (u:=u) (fr:=fr) (til:=til) (by rw[hn.s];omega) ⟨by omega,by omega⟩ ⟨by omega,by omega⟩ ⟨by omega,by omega⟩;have b1:=e5h (ws:=[a9P,nm,Txt.a0x u,Txt.a0x fr,Txt.a0x til]) rfl hn.b u1 f1 l1;have b2:=e5h (ws:=[a9P,nm,Txt.a0x u,c8H fr,c8H til]) rfl hn.b u1 g1 m1;rw[u2,f2,l2] at b1;rw[u2,g2,m2] at b2;refine⟨_,_,_,Txt.a5p ?_ ?_,?_,b1,PW.book nm u fr til (by omega) (by omega) a3 a4 a5 a6,b2,?_,by simp,by simp,?_,show (154:Nat)∈d2B by decide⟩
 ·rw[c3J];simp only[List.map_cons,List.map_nil,Txt.a6Q,Txt.b3k];rfl
 ·intro x hx;simp only[List.mem_cons,List.not_mem_nil,or_false] at hx;rcases hx with rfl|rfl|rfl|rfl|rfl
  ·exact a8t.2.1
  ·exact hn.w
  ·exact u3
  ·exact f3
  ·exact l3
 ·rw[ByteArray.size_append];show 5+_<=78;omega
 ·intro x hx;simp only[List.mem_cons,List.not_mem_nil,or_false] at hx;rcases hx with rfl|rfl|rfl|rfl|rfl
  ·exact a8t.2.1
  ·exact hn.w
  ·exact u3
  ·exact g3
  ·exact m3
 ·rw[<- Txt.a1l,d5Q];simp only[List.map_cons,List.map_nil,Txt.a6Q,Txt.b3k,List.length_append,List.length_cons,Txt.a1l];have:=Txt.a0I u (by omega) (by omega);have:=hn.s;have:a9P.size=4:=rfl;omega
theorem e9Q(x:ByteArray)(nm:ByteArray)(u fr til k:Int):(((x++c5B nm u fr til)++(⟨#[32]⟩:ByteArray))++Txt.a0x k).data.toList=x.data.toList++(nm.data.toList++32 :: ((Txt.a0x u).data.toList++32 :: ((Txt.a0x fr).data.toList++32 :: ((Txt.a0x til).data.toList++32 :: (Txt.a0x k).data.toList)))):=by
 rw[Txt.a1X,Txt.a1X,c3J];simp only[List.append_assoc,List.cons_append,List.nil_append]
theorem e4f(h:b8U nm u fr til)(k0:1<=k)(k1:k<=90):Made ((((⟨#[104,111,108,100,32]⟩:ByteArray)++c5B nm u fr til)++(⟨#[32]⟩:ByteArray))++Txt.a0x k)/\Made ((((⟨#[119,97,105,116,32]⟩:ByteArray)++c5B nm u fr til)++(⟨#[32]⟩:ByteArray))++Txt.a0x k):=by
 have a1:=h.u1;have a2:=h.u3;have a3:=h.f0;have a4:=h.f1;have a5:=h.t0;have a6:=h.t1;have hn:=f8T h;obtain⟨u1,u2,u3⟩:=c5P (n:=u) (by omega) (by omega);obtain⟨f1,f2,f3⟩:=b1q a3 a4;obtain⟨l1,l2,l3⟩:=b1q a5 a6;obtain⟨g1,g2,g3,g4⟩:=d8q a3 a4;obtain⟨m1,m2,m3,m4⟩:=d8q a5 a6;obtain⟨q1,q2,q3⟩:=f5w (n:=k) k0 (by omega);have zk:=Txt.a0I k (by omega) (by omega);have zu:=Txt.a0I u (by omega) (by omega);have hs:=b3U (nm:=nm) (u:=u) (fr:=fr) (til:=til) (by rw[hn.s];omega) ⟨by omega,by omega⟩ ⟨by omega,by omega⟩ ⟨by omega,by omega⟩;constructor
 ·have b1:=e4E (ws:=[b5f,nm,Txt.a0x u,Txt.a0x fr,Txt.a0x til,Txt.a0x k]) rfl hn.b u1 f1 l1 q1;have b2:=e4E (ws:=[b5f,nm,Txt.a0x u,c8H fr,c8H til,Txt.a0x k]) rfl hn.b u1 g1 m1 q1;rw[u2,f2,l2,q2] at b1;rw[u2,g2,m2,q2] at b2;refine⟨_,_,_,Txt.a5p ?_ ?_,?_,b1,PW.hold nm u fr til k (by omega) (by omega) a3 a4 a5 a6 (by omega) (by omega),b2,?_,by simp,by simp,?_,show (156:Nat)∈d2B by decide⟩
  ·rw[e9Q];simp only[List.map_cons,List.map_nil,Txt.a6Q,Txt.b3k];rfl
  ·intro x hx;simp only[List.mem_cons,List.not_mem_nil,or_false] at hx;rcases hx with rfl|rfl|rfl|rfl|rfl|rfl
   ·exact a8t.2.2.1
   ·exact hn.w
   ·exact u3
   ·exact f3
   ·exact l3
   ·exact q3
  ·simp only[ByteArray.size_append];show 5+_+1+_<=78;omega
  ·intro x hx;simp only[List.mem_cons,List.not_mem_nil,or_false] at hx;rcases hx with rfl|rfl|rfl|rfl|rfl|rfl
   ·exact a8t.2.2.1
   ·exact hn.w
   ·exact u3
   ·exact g3
   ·exact m3
   ·exact q3
  ·rw[<- Txt.a1l,d5Q];simp only[List.map_cons,List.map_nil,Txt.a6Q,Txt.b3k,List.length_append,List.length_cons,Txt.a1l];have:=hn.s;have:b5f.size=4:=rfl;omega
 ·have b1:=e3x (ws:=[b4k,nm,Txt.a0x u,Txt.a0x fr,Txt.a0x til,Txt.a0x k]) rfl hn.b u1 f1 l1 q1;have b2:=e3x (ws:=[b4k,nm,Txt.a0x u,c8H fr,c8H til,Txt.a0x k]) rfl hn.b u1 g1 m1 q1;rw[u2,f2,l2,q2] at b1;rw[u2,g2,m2,q2] at b2;refine⟨_,_,_,Txt.a5p ?_ ?_,?_,b1,PW.wait nm u fr til k (by omega) (by omega) a3 a4 a5 a6 (by omega) (by omega),b2,?_,by simp,by simp,?_,show (157:Nat)∈d2B by decide⟩
  ·rw[e9Q];simp only[List.map_cons,List.map_nil,Txt.a6Q,Txt.b3k];rfl
  ·intro x hx;simp only[List.mem_cons,List.not_mem_nil,or_false] at hx;rcases hx with rfl|rfl|rfl|rfl|rfl|rfl
   ·exact a8t.2.2.2.1
   ·exact hn.w
   ·exact u3
   ·exact f3
   ·exact l3
   ·exact q3
  ·simp only[ByteArray.size_append];show 5+_+1+_<=78;omega
  ·intro x hx;simp only[List.mem_cons,List.not_mem_nil,or_false] at hx;rcases hx with rfl|rfl|rfl|rfl|rfl|rfl
   ·exact a8t.2.2.2.1
   ·exact hn.w
   ·exact u3
   ·exact g3
   ·exact m3
   ·exact q3
  ·rw[<- Txt.a1l,d5Q];simp only[List.map_cons,List.map_nil,Txt.a6Q,Txt.b3k,List.length_append,List.length_cons,Txt.a1l];have:=hn.s;have:b4k.size=4:=rfl;omega
theorem d9g(h:t.data.toList=x.data.toList++32 :: y.data.toList):t.data.toList=Txt.jb ([x,y].map (·.data.toList)):=by
 rw[h];simp only[List.map_cons,List.map_nil,Txt.a6Q,Txt.b3k]
theorem e6o{n:Int}(h0:1<=n)(h1:n<=12):Made ((⟨#[99,97,110,99,101,108,32]⟩:ByteArray)++Txt.a0x n):=by
 obtain⟨u1,u2,u3⟩:=f6A (n:=n) (by omega) (by omega);have zn:=Txt.a0I n (by omega) (by omega);have t1:=takes (ws:=[a6m,Txt.a0x n]) (n:=1) (x:=Txt.a0x n) (B:=idB) rfl u1;have h:=a2H.cancel (ws:=[a6m,Txt.a0x n]) (b1P rfl);simp only[a4T,a6y,t1.1,t1.2,u2] at h;refine d9k (ws:=[a6m,Txt.a0x n]) (d9g (by rw[Txt.a1X];rfl)) ?_ ?_ h (PW.cancel n (by omega) (by omega)) (by simp) (by simp) (show (168:Nat)∈d2B by decide)
 ·intro x hx;simp only[List.mem_cons,List.not_mem_nil,or_false] at hx;rcases hx with rfl|rfl
  ·exact a8t.2.2.2.2.1
  ·exact u3
 ·rw[ByteArray.size_append];show 7+_<=78;omega
theorem e4g{n:Int}(h0:1<=n)(h1:n<=12):Made ((⟨#[99,111,110,102,105,114,109,32]⟩:ByteArray)++Txt.a0x n):=by
 obtain⟨u1,u2,u3⟩:=f6A (n:=n) (by omega) (by omega);have zn:=Txt.a0I n (by omega) (by omega);have t1:=takes (ws:=[a4z,Txt.a0x n]) (n:=1) (x:=Txt.a0x n) (B:=idB) rfl u1;have h:=a2H.confirm (ws:=[a4z,Txt.a0x n]) (b1P rfl);simp only[a4T,a6y,t1.1,t1.2,u2] at h;refine d9k (ws:=[a4z,Txt.a0x n]) (d9g (by rw[Txt.a1X];rfl)) ?_ ?_ h (PW.confirm n (by omega) (by omega)) (by simp) (by simp) (show (167:Nat)∈d2B by decide)
 ·intro x hx;simp only[List.mem_cons,List.not_mem_nil,or_false] at hx;rcases hx with rfl|rfl
  ·exact a8t.2.2.2.2.2.1
  ·exact u3
 ·rw[ByteArray.size_append];show 8+_<=78;omega
theorem f3D{n:Int}(h0:1<=n)(h1:n<=40):Made ((⟨#[116,105,99,107,32]⟩:ByteArray)++Txt.a0x n):=by
 obtain⟨u1,u2,u3⟩:=f5w (n:=n) (by omega) (by omega);have zn:=Txt.a0I n (by omega) (by omega);have t1:=takes (ws:=[b4n,Txt.a0x n]) (n:=1) (x:=Txt.a0x n) (B:=miB) rfl u1;have h:=a2H.tick (ws:=[b4n,Txt.a0x n]) (b1P rfl);simp only[a4T,a6y,t1.1,t1.2,u2] at h;refine d9k (ws:=[b4n,Txt.a0x n]) (d9g (by rw[Txt.a1X];rfl)) ?_ ?_ h (PW.tick n (by omega) (by omega)) (by simp) (by simp) (show (182:Nat)∈d2B by decide)
 ·intro x hx;simp only[List.mem_cons,List.not_mem_nil,or_false] at hx;rcases hx with rfl|rfl
  ·exact a8t.2.2.2.2.2.2.2.2.2
  ·exact u3
 ·rw[ByteArray.size_append];show 5+_<=78;omega
theorem e9m(h:ws[n]?=some x)(hxy:x≠y):isB ws n false y=false:=by
 cases hb:isB ws n false y
 ·rfl
 ·exact absurd (f4i h hb) hxy
theorem d2w:a8D≠b0Y/\a8w≠b0Y/\a8w≠a8D/\b5O≠b2z:=by
 refine⟨?_,?_,?_,?_⟩ <;> (intro h;exact absurd (congrArg (fun b=>b.data.toList) h) (by decide +kernel))
theorem g0Y{c:Nat}(h0:ws[c]?=some b0Y)(h1:ws[c+1]?=some wE)(hb:evB wE=true):b0n ws (c,false) 1 (nvF wE) [] (c+2,false):=by
 obtain⟨s1,v1⟩:=takes h1 hb;have h:=b0n.daily (ws:=ws) (st:=(c,false)) (b1P h0);have e1:nxt (c,false)=(c+1,false):=rfl;rw[e1,v1] at h;simp only[a4T,a6y,s1] at h;exact h
theorem g0X{c:Nat}(h0:ws[c]?=some a8w)(h1:ws[c+1]?=some wE)(hb:evB wE=true):b0n ws (c,false) 3 (nvF wE) [] (c+2,false):=by
 obtain⟨s1,v1⟩:=takes h1 hb;have h:=b0n.monthly (ws:=ws) (st:=(c,false)) (e9m h0 d2w.2.1) (e9m h0 d2w.2.2.1) (b1P h0);have e1:nxt (c,false)=(c+1,false):=rfl;rw[e1,v1] at h;simp only[a4T,a6y,s1] at h;exact h
theorem f8B{c:Nat}{wO:ByteArray}(h0:ws[c]?=some a8D)(h1:ws[c+1]?=some wE)(h2:ws[c+2]?=some wO)(hb:evB wE=true)(ho:Txt.onW wO=some acc):b0n ws (c,false) 2 (nvF wE) acc (c+3,false):=by
 obtain⟨s1,v1⟩:=takes h1 hb;obtain⟨s2,_⟩:=takes (B:=Txt.onB) h2 (by unfold Txt.onB;rw[ho];rfl);have e1:nxt (c,false)=(c+1,false):=rfl;have e2:a0M ws [evB] (nxt (c,false))=(c+2,false):=by rw[e1];simp only[a4T,a6y,s1]
 have h:=b0n.weekly (ws:=ws) (st:=(c,false)) (e9m h0 d2w.1) (b1P h0) acc (fun _=>by
  rw[e2,List.getD_eq_getElem?_getD,h2]
  exact ho)
 rw[e1,v1] at h;simp only[a4T,a6y,s1,s2] at h;exact h
theorem g2F{c:Nat}(h0:ws[c]?=some b2z)(h1:ws[c+1]?=some wT)(hb:evB wT=true):c3M ws (c,false) (nvF wT) 0 (c+2,false):=by
 obtain⟨s1,v1⟩:=takes h1 hb;have h:=c3M.times (ws:=ws) (st:=(c,false)) (b1P h0);have e1:nxt (c,false)=(c+1,false):=rfl;rw[e1,v1] at h;simp only[a4T,a6y,s1] at h;exact h
theorem g2E{c:Nat}(h0:ws[c]?=some b5O)(h1:ws[c+1]?=some wT)(hb:Txt.a2y wT=true):c3M ws (c,false) 0 (b0a wT) (c+2,false):=by
 obtain⟨s1,v1⟩:=takes h1 hb;have h:=c3M.til (ws:=ws) (st:=(c,false)) (e9m h0 d2w.2.2.2) (b1P h0);have e1:nxt (c,false)=(c+1,false):=rfl;rw[e1,v1] at h;simp only[a4T,a6y,s1] at h;exact h
theorem f6h{wD wM wI:ByteArray}{pc ev:Int}{c:Nat}{ti un:Int}(h0:ws[0]?=some a7l)(h1:ws[1]?=some nm)(hn:nmB nm=true)(h2:ws[2]?=some wU)(hu:unB wU=true)(hp:b0n ws (3,false) pc ev acc (c,false))
  (f0:ws[c]?=some a1t) (f1:ws[c+1]?=some wD) (f2:ws[c+2]?=some atW) (f3:ws[c+3]?=some wM) (f4:ws[c+4]?=some b3z) (f5:ws[c+5]?=some wI) (b1:Txt.a2y wD=true) (b3:Txt.a3a wM=true) (b5:miB wI=true) (he:c3M ws (c+6,false) ti un (n,false)):
  a2H ws (.iface 165 (.agg #[.string nm,.int .i64 (nvF wU),.int .i64 pc,.int .i64 ev,.bool (isd acc 0),.bool (isd acc 1),.bool (isd acc 2),.bool (isd acc 3),.bool (isd acc 4),.bool (isd acc 5),.bool (isd acc 6),.int .i64 (b0a wD),.int .i64 (Txt.a6J wM),.int .i64 (nvF wI),.int .i64 ti,.int .i64 un])) (n,false):=by
 obtain⟨s0,_⟩:=takes f0 (e2u a1t);obtain⟨s1,v1⟩:=takes f1 b1;obtain⟨s2,_⟩:=takes f2 (e2u atW);obtain⟨s3,v3⟩:=takes f3 b3;obtain⟨s4,_⟩:=takes f4 (e2u b3z);obtain⟨s5,v5⟩:=takes f5 b5;obtain⟨t1,_⟩:=takes h1 hn;obtain⟨t2,v2⟩:=takes h2 hu;have em:c4Y ws (c,false)=(c+6,false):=by unfold c4Y;simp only[a4T,a6y,s0,s1,s2,s3,s4,s5]
 have hr:=b0m.mk (ws:=ws) (st:=(3,false)) pc ev acc (c,false) ti un (n,false) hp (by rw[em];exact he);simp only[a4T,a6y,s0,s1,s2,s3,s4,v1,v3,v5] at hr;have e2:a0M ws [nmB,unB] (1,false)=(3,false):=by simp only[a4T,a6y,t1,t2]
 have h:=a2H.series (ws:=ws) (b1P h0) pc ev acc _ _ _ ti un (n,false) (by rw[e2];exact hr);simp only[a4T,a6y,t1,v2,a8A (ws:=ws) (n:=1) h1 hn] at h;exact h
def d2Y(late:Bool)(d:Int):ByteArray:=b1O late++b8V (1+d)
def e5x(h m:Int):ByteArray:=((((⟨#[48]⟩:ByteArray)++Txt.a0x h)++(⟨#[58]⟩:ByteArray))++Txt.a0x m)++(⟨#[48]⟩:ByteArray)
theorem f4u:∀ (late:Bool)(d:Fin 28),Txt.a2y (d2Y late d.1)=true/\Txt.a3V (d2Y late d.1).data.toList=true/\(d2Y late d.1).size=10:=by decide +kernel
theorem f6O:∀ (h:Fin 3)(m:Fin 5),1<=m.1->Txt.a3a (e5x h.1 m.1)=true/\Txt.a3V (e5x h.1 m.1).data.toList=true/\(e5x h.1 m.1).size=5:=by decide +kernel
theorem e9k:∀ k:Fin 101,(Txt.a0x (k.1:Int)).size<=3/\(k.1<10->(Txt.a0x (k.1:Int)).size=1):=by decide +kernel
theorem e3a(late:Bool){d:Int}(h0:0<=d)(h1:d<=27):Txt.a2y (d2Y late d)=true/\Txt.a3V (d2Y late d).data.toList=true/\(d2Y late d).size=10:=by
 obtain⟨k,rfl⟩:=Int.eq_ofNat_of_zero_le h0;exact f4u late ⟨k,by omega⟩
theorem f3w{h m:Int}(h0:0<=h)(h1:h<=2)(m0:1<=m)(m1:m<=4):Txt.a3a (e5x h m)=true/\Txt.a3V (e5x h m).data.toList=true/\(e5x h m).size=5:=by
 obtain⟨a,rfl⟩:=Int.eq_ofNat_of_zero_le h0;obtain⟨b,rfl⟩:=Int.eq_ofNat_of_zero_le (show 0<=m by omega);exact f6O ⟨a,by omega⟩ ⟨b,by omega⟩ (by show 1<=b;omega)
theorem d3I(h0:0<=k)(h1:k<=100):(Txt.a0x k).size<=3/\(k<=9->(Txt.a0x k).size=1):=by
 obtain⟨a,rfl⟩:=Int.eq_ofNat_of_zero_le h0;exact⟨(e9k ⟨a,by omega⟩).1,fun h=>(e9k ⟨a,by omega⟩).2 (by show a<10;omega)⟩
def onK:List ByteArray:=[⟨#[109,111]⟩,⟨#[116,117,44,119,101]⟩,⟨#[115,117,44,102,114,44,109,111]⟩]
inductive PaK:List ByteArray->Prop where
 |daily (k:Int) (h0:1<=k) (h1:k<=5):PaK [b0Y,Txt.a0x k]
 |monthly (k:Int) (h0:1<=k) (h1:k<=5):PaK [a8w,Txt.a0x k]
 |weekly (k:Int) (o:ByteArray) (h0:1<=k) (h1:k<=5) (ho:o∈onK):PaK [a8D,Txt.a0x k,o]
inductive EnK:List ByteArray->Prop where
 |times (k:Int) (h0:1<=k) (h1:k<=6):EnK [b2z,Txt.a0x k]
 |til (late:Bool) (d:Int) (h0:0<=d) (h1:d<=27):EnK [b5O,d2Y late d]
def e3j(r:ByteArray):Prop:=∃ (ps es:List ByteArray)(late:Bool)(d h m k:Int),PaK ps/\EnK es/\(0<=d/\d<=27)/\(0<=h/\h<=2)/\(1<=m/\m<=4)/\(1<=k/\k<=100)/\r.data.toList=Txt.jb ((ps++[a1t,d2Y late d,atW,e5x h m,b3z,Txt.a0x k]++es).map (·.data.toList))
theorem d4E:∀ (A B:List (List UInt8)),A≠[]->B≠[]->Txt.jb (A++B)=Txt.jb A++32 :: Txt.jb B
 |[],_,h,_=>absurd rfl h
 |[x],[],_,h=>absurd rfl h
 |[x],y :: r,_,_=>by rw[Txt.b3k];rfl
 |x :: y :: r,B,_,hB=>by
  have:=d4E (y :: r) B (by simp) hB;show Txt.jb (x :: y :: (r++B))=_;rw[Txt.a6Q,Txt.a6Q];have e:y :: (r++B)=(y :: r)++B:=rfl;rw[e,this,List.append_assoc];rfl
theorem e0e{A S:List ByteArray}(j:Nat):(A++S)[A.length+j]?=S[j]?:=by
 rw[List.getElem?_append_right (by omega),Nat.add_sub_cancel_left]
theorem f9D:∀ o∈onK,Txt.a3V o.data.toList=true/\o.size<=8:=by decide +kernel
theorem f3h:Txt.onW ⟨#[109,111]⟩=some [0]/\onJ [0]=⟨#[109,111]⟩:=by decide +kernel
theorem f3g:Txt.onW ⟨#[116,117,44,119,101]⟩=some [2,1]/\onJ [2,1]=⟨#[116,117,44,119,101]⟩:=by decide +kernel
theorem f0I:Txt.onW ⟨#[115,117,44,102,114,44,109,111]⟩=some [0,4,6]/\onJ [0,4,6]=⟨#[109,111,44,102,114,44,115,117]⟩/\Txt.onW ⟨#[109,111,44,102,114,44,115,117]⟩=some [6,4,0]/\Txt.a3V (⟨#[109,111,44,102,114,44,115,117]⟩:ByteArray).data.toList=true:=by decide +kernel
theorem g1g{o:ByteArray}(h:o∈onK):∃ acc acc',Txt.onW o=some acc/\Txt.onW (onJ acc)=some acc'/\(∀ j:Fin 7,isd acc' (j.1:Int)=isd acc (j.1:Int))/\Txt.a3V (onJ acc).data.toList=true/\(onJ acc).size<=8:=by
 unfold onK at h;simp only[List.mem_cons,List.not_mem_nil,or_false] at h;rcases h with rfl|rfl|rfl
 ·exact⟨[0],[0],f3h.1,by rw[f3h.2];exact f3h.1,by decide,by rw[f3h.2];decide +kernel,by rw[f3h.2];decide⟩
 ·exact⟨[2,1],[2,1],f3g.1,by rw[f3g.2];exact f3g.1,by decide,by rw[f3g.2];decide +kernel,by rw[f3g.2];decide⟩
 ·exact⟨[0,4,6],[6,4,0],f0I.1,by rw[f0I.2.1];exact f0I.2.2.1,by decide,by rw[f0I.2.1];exact f0I.2.2.2,by rw[f0I.2.1];decide⟩
structure PaU(ps qs:List ByteArray)(pc ev:Int)(acc acc':List Int):Prop where
 l:qs.length=ps.length
 n:ps.length<=3
 n0:0<ps.length
 rd:∀ (a b c:ByteArray) (S:List ByteArray),b0n ([a,b,c]++ps++S) (3,false) pc ev acc (3+ps.length,false)
 rq:∀ (a b c:ByteArray) (S:List ByteArray),b0n ([a,b,c]++qs++S) (3,false) pc ev acc' (3+ps.length,false)
 same:∀ j:Fin 7,isd acc' (j.1:Int)=isd acc (j.1:Int)
 pw:PaW pc ev acc qs
 wp:∀ x∈ps,Txt.a3V x.data.toList=true
 wq:∀ x∈qs,Txt.a3V x.data.toList=true
 sp:(Txt.jb (ps.map (·.data.toList))).length<=17
 sq:(Txt.jb (qs.map (·.data.toList))).length<=17
theorem PaK.use{ps:List ByteArray}(h:PaK ps):∃ qs pc ev acc acc',PaU ps qs pc ev acc acc':=by
 obtain⟨l1,l2,l3,l4,l5,l6,l7,l8⟩:=e6p
 cases h with
 |daily k h0 h1 =>
  obtain⟨a,b,c⟩:=f7Q (n:=k) h0 (by omega);have z:=(d3I (k:=k) (by omega) (by omega)).2 (by omega)
  have w:∀ x∈[b0Y,Txt.a0x k],Txt.a3V x.data.toList=true:=by
   intro x hx;simp only[List.mem_cons,List.not_mem_nil,or_false] at hx;rcases hx with rfl|rfl
   ·exact l2
   ·exact c
  have s:(Txt.jb ([b0Y,Txt.a0x k].map (·.data.toList))).length<=17:=by
   simp only[List.map_cons,List.map_nil,Txt.a6Q,Txt.b3k,List.length_append,List.length_cons,Txt.a1l];have:b0Y.size=5:=rfl;omega
  have r:∀ (x y z:ByteArray) (S:List ByteArray),b0n ([x,y,z]++[b0Y,Txt.a0x k]++S) (3,false) 1 k [] (3+2,false):=fun x y z S=>by
   have:=g0Y (ws:=[x,y,z]++[b0Y,Txt.a0x k]++S) (c:=3) (wE:=Txt.a0x k) rfl rfl a;rw[b] at this;exact this
  exact⟨_,1,k,[],[],rfl,by simp,by simp,r,r,fun _=>rfl,PaW.daily k [] (by omega) (by omega),w,w,s,s⟩
 |monthly k h0 h1 =>
  obtain⟨a,b,c⟩:=f7Q (n:=k) h0 (by omega);have z:=(d3I (k:=k) (by omega) (by omega)).2 (by omega)
  have w:∀ x∈[a8w,Txt.a0x k],Txt.a3V x.data.toList=true:=by
   intro x hx;simp only[List.mem_cons,List.not_mem_nil,or_false] at hx;rcases hx with rfl|rfl
   ·exact l4
   ·exact c
  have s:(Txt.jb ([a8w,Txt.a0x k].map (·.data.toList))).length<=17:=by
   simp only[List.map_cons,List.map_nil,Txt.a6Q,Txt.b3k,List.length_append,List.length_cons,Txt.a1l];have:a8w.size=7:=rfl;omega
  have r:∀ (x y z:ByteArray) (S:List ByteArray),b0n ([x,y,z]++[a8w,Txt.a0x k]++S) (3,false) 3 k [] (3+2,false):=fun x y z S=>by
   have:=g0X (ws:=[x,y,z]++[a8w,Txt.a0x k]++S) (c:=3) (wE:=Txt.a0x k) rfl rfl a;rw[b] at this;exact this
  exact⟨_,3,k,[],[],rfl,by simp,by simp,r,r,fun _=>rfl,PaW.monthly k [] (by omega) (by omega),w,w,s,s⟩
 |weekly k o h0 h1 ho =>
  obtain⟨a,b,c⟩:=f7Q (n:=k) h0 (by omega);have z:=(d3I (k:=k) (by omega) (by omega)).2 (by omega);obtain⟨acc,acc',e1,e2,e3,e4,e5⟩:=g1g ho;obtain⟨o1,o2⟩:=f9D o ho;refine⟨[a8D,Txt.a0x k,onJ acc],2,k,acc,acc',rfl,by simp,by simp,?_,?_,e3,PaW.weekly k acc (by omega) (by omega) (g1f e1) (f3e acc),?_,?_,?_,?_⟩
  ·intro x y z S;have:=f8B (ws:=[x,y,z]++[a8D,Txt.a0x k,o]++S) (c:=3) (wE:=Txt.a0x k) (wO:=o) rfl rfl rfl a e1;rw[b] at this;exact this
  ·intro x y z S;have:=f8B (ws:=[x,y,z]++[a8D,Txt.a0x k,onJ acc]++S) (c:=3) (wE:=Txt.a0x k) (wO:=onJ acc) rfl rfl rfl a e2;rw[b] at this;exact this
  ·intro x hx;simp only[List.mem_cons,List.not_mem_nil,or_false] at hx;rcases hx with rfl|rfl|rfl
   ·exact l3
   ·exact c
   ·exact o1
  ·intro x hx;simp only[List.mem_cons,List.not_mem_nil,or_false] at hx;rcases hx with rfl|rfl|rfl
   ·exact l3
   ·exact c
   ·exact e4
  ·simp only[List.map_cons,List.map_nil,Txt.a6Q,Txt.b3k,List.length_append,List.length_cons,Txt.a1l];have:a8D.size=6:=rfl;omega
  ·simp only[List.map_cons,List.map_nil,Txt.a6Q,Txt.b3k,List.length_append,List.length_cons,Txt.a1l];have:a8D.size=6:=rfl;omega
structure EnU(es:List ByteArray)(ti un:Int):Prop where
 n:es.length=2
 rd:∀ P:List ByteArray,c3M (P++es) (P.length,false) ti un (P.length+2,false)
 pw:EnW ti un es
 wd:∀ x∈es,Txt.a3V x.data.toList=true
 sz:(Txt.jb (es.map (·.data.toList))).length<=16
theorem EnK.use{es:List ByteArray}(h:EnK es):∃ ti un,EnU es ti un:=by
 obtain⟨l1,l2,l3,l4,l5,l6,l7,l8⟩:=e6p
 cases h with
 |times k h0 h1 =>
  obtain⟨a,b,c⟩:=f7Q (n:=k) h0 (by omega);have z:=(d3I (k:=k) (by omega) (by omega)).2 (by omega);refine⟨k,0,rfl,fun P=>?_,EnW.times k 0 (by omega) (by omega),?_,?_⟩
  ·have:=g2F (ws:=P++[b2z,Txt.a0x k]) (c:=P.length) (wT:=Txt.a0x k) (e0e 0) (e0e 1) a;rw[b] at this;exact this
  ·intro x hx;simp only[List.mem_cons,List.not_mem_nil,or_false] at hx;rcases hx with rfl|rfl
   ·exact l8
   ·exact c
  ·simp only[List.map_cons,List.map_nil,Txt.a6Q,Txt.b3k,List.length_append,List.length_cons,Txt.a1l];have:b2z.size=5:=rfl;omega
 |til late d h0 h1 =>
  obtain⟨a,b,c⟩:=e3a late h0 h1;have hd:=c1g a;have hb:=e5c _ a;refine⟨0,b0a (d2Y late d),rfl,fun P=>?_,?_,?_,?_⟩
  ·exact g2E (ws:=P++[b5O,d2Y late d]) (c:=P.length) (wT:=d2Y late d) (e0e 0) (e0e 1) a
  ·have:=EnW.til (b0a (d2Y late d)) (by omega) (by omega);rw[hb] at this;exact this
  ·intro x hx;simp only[List.mem_cons,List.not_mem_nil,or_false] at hx;rcases hx with rfl|rfl
   ·decide +kernel
   ·exact b
  ·simp only[List.map_cons,List.map_nil,Txt.a6Q,Txt.b3k,List.length_append,List.length_cons,Txt.a1l];have:b5O.size=5:=rfl;omega
theorem d8A{A B:List ByteArray}(ha:∀ x∈A,Txt.a3V x.data.toList=true)(hb:∀ x∈B,Txt.a3V x.data.toList=true):∀ x∈A++B,Txt.a3V x.data.toList=true:=fun x hx=>by
 rcases List.mem_append.1 hx with hx|hx
 ·exact ha x hx
 ·exact hb x hx
theorem e6n{z r:ByteArray}(hz:z=⟨#[97,32,49,32]⟩\/z=⟨#[98,32,50,32]⟩)(hr:e3j r):Made (((⟨#[115,101,114,105,101,115,32]⟩:ByteArray)++z)++r):=by
 obtain⟨l1,l2,l3,l4,l5,l6,l7,l8⟩:=e6p;obtain⟨ps,es,late,d,h,m,k,hp,he,⟨d0,d1⟩,⟨h0,h1⟩,⟨m0,m1⟩,⟨k0,k1⟩,ht⟩:=hr;obtain⟨qs,pc,ev,acc,acc',P⟩:=hp.use;obtain⟨ti,un,E⟩:=he.use;obtain⟨da,db,dc⟩:=e3a late d0 d1;obtain⟨ma,mb,mc⟩:=f3w h0 h1 m0 m1;obtain⟨ka,kb,kc⟩:=f5w (n:=k) k0 (by omega);have kz:=(d3I (k:=k) (by omega) k1).1
 obtain⟨nm,u,hn,u0,u1,ez⟩:∃ (nm:ByteArray) (u:Int),Nm nm/\1<=u/\u<=2/\z.data.toList=nm.data.toList++32 :: ((Txt.a0x u).data.toList++[32]):=by
  rcases hz with rfl|rfl
  ·exact⟨⟨#[97]⟩,1,c7k,by omega,by omega,by decide +kernel⟩
  ·exact⟨⟨#[98]⟩,2,c7j,by omega,by omega,by decide +kernel⟩
 obtain⟨ua,ub,uc⟩:=c5P (n:=u) u0 (by omega);have uz:=(d3I (k:=u) (by omega) (by omega)).2 (by omega);generalize hsix:[a1t,d2Y late d,atW,e5x h m,b3z,Txt.a0x k]=six at ht
 have six_w:∀ x∈six,Txt.a3V x.data.toList=true:=by
  rw[<- hsix];intro x hx;simp only[List.mem_cons,List.not_mem_nil,or_false] at hx;rcases hx with rfl|rfl|rfl|rfl|rfl|rfl
  ·exact l5
  ·exact db
  ·exact l6
  ·exact mb
  ·exact l7
  ·exact kc
 have six_s:(Txt.jb (six.map (·.data.toList))).length<=32:=by
  rw[<- hsix];simp only[List.map_cons,List.map_nil,Txt.a6Q,Txt.b3k,List.length_append,List.length_cons,Txt.a1l];have:a1t.size=4:=rfl;have:atW.size=2:=rfl;have:b3z.size=3:=rfl;omega
 have six_n:six≠[]:=by rw[<- hsix];simp
 have six_l:six.length=6:=by rw[<- hsix];rfl
 have es_n:es≠[]:=by intro e;have:=E.n;rw[e] at this;simp at this
 have line:∀ (A:List ByteArray) (acc:List Int),A.length=ps.length->(∀ (S:List ByteArray),b0n ([a7l,nm,Txt.a0x u]++A++S) (3,false) pc ev acc (3+ps.length,false))->a2H ([a7l,nm,Txt.a0x u]++A++six++es) (.iface 165 (.agg #[.string nm,.int .i64 u,.int .i64 pc,.int .i64 ev,.bool (isd acc 0),.bool (isd acc 1),.bool (isd acc 2),.bool (isd acc 3),.bool (isd acc 4),.bool (isd acc 5),.bool (isd acc 6),.int .i64 (b0a (d2Y late d)),.int .i64 (Txt.a6J (e5x h m)),.int .i64 k,.int .i64 ti,.int .i64 un])) (([a7l,nm,Txt.a0x u]++A++six++es).length,false):=by
  intro A acc hA hPa;have hl:([a7l,nm,Txt.a0x u]++A).length=3+ps.length:=by rw[List.length_append,hA];rfl
  have hat:∀ j,j<6->([a7l,nm,Txt.a0x u]++A++six++es)[3+ps.length+j]?=six[j]?:=fun j hj=>by
   rw[List.append_assoc,<- hl,e0e,List.getElem?_append_left (by omega)]
  have hend:=E.rd ([a7l,nm,Txt.a0x u]++A++six);have hl2:([a7l,nm,Txt.a0x u]++A++six).length=3+ps.length+6:=by rw[List.length_append,hl,six_l]
  rw[hl2] at hend;have hpc:=hPa (six++es);rw[<- List.append_assoc] at hpc;have hl3:([a7l,nm,Txt.a0x u]++A++six++es).length=3+ps.length+6+2:=by rw[List.length_append,hl2,E.n]
  rw[hl3]
  have:=f6h (ws:=[a7l,nm,Txt.a0x u]++A++six++es) (nm:=nm) (wU:=Txt.a0x u) (wD:=d2Y late d) (wM:=e5x h m) (wI:=Txt.a0x k) rfl rfl hn.b rfl ua hpc
   (by rw[<- Nat.add_zero (3+ps.length),hat 0 (by omega),<- hsix];rfl) (by rw[hat 1 (by omega),<- hsix];rfl) (by rw[hat 2 (by omega),<- hsix];rfl) (by rw[hat 3 (by omega),<- hsix];rfl) (by rw[hat 4 (by omega),<- hsix];rfl) (by rw[hat 5 (by omega),<- hsix];rfl) da ma ka hend
  rw[ub,kb] at this;exact this
 have hd:=c1g da;have hmb:=c6h ma
 have wds:∀ A:List ByteArray,(∀ x∈A,Txt.a3V x.data.toList=true)->∀ x∈[a7l,nm,Txt.a0x u]++A++six++es,Txt.a3V x.data.toList=true:=fun A hA=>by
  refine d8A (d8A (d8A ?_ hA) six_w) E.wd;intro x hx;simp only[List.mem_cons,List.not_mem_nil,or_false] at hx;rcases hx with rfl|rfl|rfl
  ·decide +kernel
  ·exact hn.w
  ·exact uc
 have txt:∀ A:List ByteArray,0<A.length->Txt.jb (([a7l,nm,Txt.a0x u]++A++six++es).map (·.data.toList))=a7l.data.toList++32 :: (nm.data.toList++32 :: ((Txt.a0x u).data.toList++32 :: (Txt.jb (A.map (·.data.toList))++32 :: (Txt.jb (six.map (·.data.toList))++32 :: Txt.jb (es.map (·.data.toList)))))):=fun A hA=>by
  have hAn:A.map (·.data.toList)≠[]:=by intro e;rw[List.map_eq_nil_iff] at e;rw[e] at hA;simp at hA
  rw[List.map_append,List.map_append,List.map_append,d4E _ _ (by simp) (by simpa using es_n),d4E _ _ (by simp) (by simpa using six_n),d4E _ _ (by simp) hAn];simp only[List.map_cons,List.map_nil,Txt.a6Q,Txt.b3k,List.append_assoc,List.cons_append]
 have hps:0<ps.length:=P.n0;have e1:=line ps acc rfl (fun S=>P.rd _ _ _ S);have e2:=line qs acc' P.l (fun S=>P.rq _ _ _ S);rw[show isd acc' 0=isd acc 0 from P.same 0,show isd acc' 1=isd acc 1 from P.same 1,show isd acc' 2=isd acc 2 from P.same 2,show isd acc' 3=isd acc 3 from P.same 3,show isd acc' 4=isd acc 4 from P.same 4,show isd acc' 5=isd acc 5 from P.same 5,show isd acc' 6=isd acc 6 from P.same 6] at e2
 have pw:PW (.iface 165 (.agg #[.string nm,.int .i64 u,.int .i64 pc,.int .i64 ev,.bool (isd acc 0),.bool (isd acc 1),.bool (isd acc 2),.bool (isd acc 3),.bool (isd acc 4),.bool (isd acc 5),.bool (isd acc 6),.int .i64 (b0a (d2Y late d)),.int .i64 (Txt.a6J (e5x h m)),.int .i64 k,.int .i64 ti,.int .i64 un])) ([a7l,nm,Txt.a0x u]++qs++six++es):=by
  have hrw:=RW.mk pc ev acc (b0a (d2Y late d)) (Txt.a6J (e5x h m)) k ti un qs es P.pw E.pw (by omega) (by omega) (by omega) (by omega) (by omega) (by omega)
  have e6:e7C (b0a (d2Y late d)) (Txt.a6J (e5x h m)) k=six:=by
   unfold e7C;rw[e5c _ da,f6M _ ma,hsix]
  rw[e6] at hrw;have:=PW.series nm u pc ev acc _ _ k ti un _ (by omega) (by omega) hrw;rw[List.append_assoc,List.append_assoc,<- List.append_assoc qs];exact this
 have eT:((((⟨#[115,101,114,105,101,115,32]⟩:ByteArray)++z)++r)).data.toList=Txt.jb (([a7l,nm,Txt.a0x u]++ps++six++es).map (·.data.toList)):=by
  have hpn:ps.map (·.data.toList)≠[]:=by intro e;rw[List.map_eq_nil_iff] at e;rw[e] at hps;simp at hps
  rw[Txt.a1X,Txt.a1X,ez,ht,txt ps hps,List.map_append,List.map_append,d4E _ _ (by simp[hsix.symm]) (by simpa using es_n),d4E _ _ hpn (by simpa using six_n)];have es7:(⟨#[115,101,114,105,101,115,32]⟩:ByteArray).data.toList=a7l.data.toList++[32]:=by decide +kernel
  rw[es7];simp only[List.append_assoc,List.cons_append,List.nil_append]
 refine⟨_,_,_,Txt.a5p eT (wds ps P.wp),?_,e1,pw,e2,wds qs P.wq,?_,?_,?_,show (165:Nat)∈d2B by decide⟩
 ·rw[<- Txt.a1l,eT,txt ps hps];simp only[List.length_append,List.length_cons,Txt.a1l];have:=P.sp;have:=E.sz;have:=hn.s;have:a7l.size=6:=rfl;omega
 ·simp only[List.length_append,List.length_cons,List.length_nil];omega
 ·simp only[List.length_append,List.length_cons,List.length_nil];have:=P.l;have:=P.n;have:=E.n;omega
 ·rw[<- Txt.a1l,d5Q,txt qs (by rw[P.l];exact hps)];simp only[List.length_append,List.length_cons,Txt.a1l];have:=P.sq;have:=E.sz;have:=hn.s;have:a7l.size=6:=rfl;omega
end Go.Proofs.YtfigmlfdnickmaaGreatDoor
