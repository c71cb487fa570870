/-
  Parts of the proof, one behind the other.
-/
import Derived.Test.YtfigmlfdnickmaaGreatDoorL18
import Derived.RegionTactic
import Derived.Deep.AppendLies
import Derived.BigQuiet
set_option maxRecDepth 100000
set_option maxHeartbeats 8000000
variable{a nm s t:ByteArray}{fr til u:Int}{ks:List (Nat × Go.Obj)}{B F b dk g i k p:Nat}{v:Go.Value}{W W' X w w' w0:Go.World}
namespace Go.Proofs.YtfigmlfdnickmaaGreatDoor
open Go.RowKit
theorem c0B(h:FW w0 F s w):
  Calls Tryz.prog 49 #[.pointer (some ⟨F,0,none⟩)] w fun e w'=>∃ t,e=.returned (.string t)/\t.size<=120/\FW w0 F s w':=by
 have HA:=a0b h;clear h
 go_enter Tryz.func49,Tryz.ntmps49
 go_upto_region 4 with (first
  |(go_at_call 26;refine (a1h HA.out 4 (by omega) (by omega)).mono ?_;rintro e w1 ⟨v1,rfl,a1,b1,ha1⟩;have HA1:=a0b ha1;clear ha1))
 replace HA:=HA1;clear HA1
 rename_i K8 h8 K5 h5
 have KK8:∀ (t8 t9 t10 t11 t12 t13 t14:Value) (x:ByteArray) (W:World),x.size<=8->FW w0 F s W->K8 { tmps:=#[.pointer (some ⟨F,0,none⟩),undef,.string ⟨#[]⟩,.string x,.int .i64 v1,undef,undef,undef,t8,t9,t10,t11,t12,t13,t14,undef,undef,undef,undef,undef,undef,undef,undef,undef,undef,undef,undef,undef,undef,undef,undef,undef,undef,undef,undef,undef,undef,undef,undef,undef,undef,undef,undef,undef,undef,undef,undef,undef,undef,undef,undef,undef,undef,undef,undef,undef,undef,undef,undef,undef,undef,undef,undef,undef,undef,undef,undef,undef,undef,undef,undef,undef,undef,undef,undef,undef,undef,undef,undef,undef],defers:=[] } W:=by
  intro t8 t9 t10 t11 t12 t13 t14 x W hx hW;refine h8 _ _ ?_;clear h8 h5 HA;have HA:=a0b hW;clear hW
  go_upto_region 9 with (first
   |(go_at_call 26;refine (a1h HA.out 5 (by omega) (by omega)).mono ?_;rintro e w2 ⟨v2,rfl,a2,b2,ha⟩;replace HA:=a0b ha;clear ha;have k2:IntKind.i64.wrap (1+v2)=1+v2:=a0G (by omega) (by omega))
   |(go_at_call 22;refine (a3L HA.out (1+v2) (by omega) (by omega)).mono ?_;rintro e w3 ⟨rfl,ha⟩;replace HA:=a0b ha;clear ha;have z2:=Txt.a0I (1+v2) (by omega) (by omega)))
  have zx:(x++Txt.a0x (1+v2)).size<=15:=by rw[ByteArray.size_append];omega
  generalize x++Txt.a0x (1+v2)=y at zx ⊢;generalize Txt.a0x (1+v2)=y2;clear k2 hx z2
  rename_i K12 h12 K9 h9
  have KK12:∀ (t5 t8 t9 t10 t11 t12 t13 t14 t15 t16 t17 t18 t19 t20 t21 t22 t23 t24 t25 t26 t27 t28 t29 t30:Value) (x:ByteArray) (W:World),x.size<=24->FW w0 F s W->K12 { tmps:=#[.pointer (some ⟨F,0,none⟩),undef,.string ⟨#[]⟩,.string x,.int .i64 v1,t5,undef,undef,t8,t9,t10,t11,t12,t13,t14,t15,t16,t17,t18,t19,t20,t21,t22,t23,t24,t25,t26,t27,t28,t29,t30,undef,undef,undef,undef,undef,undef,undef,undef,undef,undef,undef,undef,undef,undef,undef,undef,undef,undef,undef,undef,undef,undef,undef,undef,undef,undef,undef,undef,undef,undef,undef,undef,undef,undef,undef,undef,undef,undef,undef,undef,undef,undef,undef,undef,undef,undef,undef,undef,undef],defers:=[] } W:=by
   intro t5 t8 t9 t10 t11 t12 t13 t14 t15 t16 t17 t18 t19 t20 t21 t22 t23 t24 t25 t26 t27 t28 t29 t30 x W hx hW;refine h12 _ _ ?_;clear h12 h9 HA;have HA:=a0b hW;clear hW zx
   go_upto_region 13 with (first
    |(go_at_call 26;refine (a1h HA.out 6 (by omega) (by omega)).mono ?_;rintro e w4 ⟨v4,rfl,a4,b4,ha⟩;replace HA:=a0b ha;clear ha))
   go_upto_region 14 with (first
    |(go_at_call 26;refine (a1h HA.out 28 (by omega) (by omega)).mono ?_;rintro e w5 ⟨v5,rfl,a5,b5,ha⟩;replace HA:=a0b ha;clear ha))
   generalize (v4==1)=late;have DT:=a0b (fun W (hW:FW w0 F s W)=>b3j hW v5 late (by omega) (by omega))
   have zl:(b1O late++b8V (1+v5)).size<=15:=by
    have:=b2V (n:=1+v5) (by omega) (by omega)
    have:(b1O late).size=8:=by cases late <;> rfl
    rw[ByteArray.size_append];omega
   have DT2:=a0b (fun W n (hn:0<=n/\n<=60) (hW:FW w0 F s W)=>b3j hW n late (by omega) (by omega))
   generalize hD:b1O late++b8V (1+v5)=dS at DT zl;clear hD
   go_upto_region 15 with (first
    |(go_at_call 68;refine (DT.out _ HA.out).mono ?_;rintro e w6 ⟨rfl,ha⟩;replace HA:=a0b ha;clear ha DT)
    |(go_at_call 26;refine (a1h HA.out _ (by first|exact (by decide:(1:Int)<=3)|exact (by decide:(1:Int)<=4)|exact (by decide:(1:Int)<=100)) (by first|exact (by decide:(3:Int)<=1000)|exact (by decide:(4:Int)<=1000)|exact (by decide:(100:Int)<=1000))).mono ?_;rintro e w7 ⟨v7,rfl,a7,b7,ha⟩;replace HA:=a0b ha;clear ha;have k7:IntKind.i64.wrap (1+v7)=1+v7:=a0G (by omega) (by omega);have z7:=Txt.a0I v7 (by omega) (by omega);have z8:=Txt.a0I (1+v7) (by omega) (by omega))
    |(go_at_call 22;refine (a3L HA.out _ (by omega) (by omega)).mono ?_;rintro e w8 ⟨rfl,ha⟩;replace HA:=a0b ha;clear ha))
   rename_i wa va a7a b7a k7a z7a z8a wb wc vc a7c b7c k7c z7c z8c wd K17 h17 K16 h16
   have zz:((((((((x++(⟨#[32,102,114,111,109,32]⟩:ByteArray))++dS)++(⟨#[32,97,116,32,48]⟩:ByteArray))++Txt.a0x va)++(⟨#[58]⟩:ByteArray))++Txt.a0x (1+vc))++(⟨#[48,32,102,111,114,32]⟩:ByteArray))++Txt.a0x (1+v7)).size<=90:=by
    simp only[ByteArray.size_append];show x.size+6+dS.size+5+_+1+_+6+_<=90;omega
   generalize (((((((x++(⟨#[32,102,114,111,109,32]⟩:ByteArray))++dS)++(⟨#[32,97,116,32,48]⟩:ByteArray))++Txt.a0x va)++(⟨#[58]⟩:ByteArray))++Txt.a0x (1+vc))++(⟨#[48,32,102,111,114,32]⟩:ByteArray))++Txt.a0x (1+v7)=y at zz ⊢;clear k7a z7a z8a k7c z7c z8c k7 z7 z8 zl hx;have k5:IntKind.i64.wrap (28-v5)=28-v5:=a0G (by omega) (by omega)
   have H17:=a0b h17;clear h17
   go_upto_region 16 with (first
    |(go_at_call 26;refine (a1h HA.out 2 (by omega) (by omega)).mono ?_;rintro e w9 ⟨v8,rfl,a8,b8,ha⟩;replace HA:=a0b ha;clear ha))
   ·clear H17
    go_wp2_with (first
     |(go_at_call 26;refine (a1h HA.out (28-v5) (by omega) (by omega)).mono ?_;rintro e w9 ⟨v9,rfl,a9,b9,ha⟩;replace HA:=a0b ha;clear ha;have k9:IntKind.i64.wrap (v5+v9)=v5+v9:=a0G (by omega) (by omega))
     |(go_at_call 68;refine (DT2.out _ (v5+v9) (by omega) HA.out).mono ?_;rintro e w10 ⟨rfl,ha⟩;replace HA:=a0b ha;clear ha;have zl:(b1O late++b8V (1+(v5+v9))).size<=15:=(by
       have:=b2V (n:=1+(v5+v9)) (by omega) (by omega)
       have:(b1O late).size=8:=by cases late <;> rfl
       rw[ByteArray.size_append];omega);generalize b1O late++b8V (1+(v5+v9))=dS2 at zl ⊢))
    go_ret;exact⟨_,rfl,by simp only[ByteArray.size_append];show y.size+7+_<=120;omega,HA.out⟩
   ·refine H17.out _ _ ?_;clear H17
    go_wp2_with (first
     |(go_at_call 26;refine (a1h HA.out 6 (by omega) (by omega)).mono ?_;rintro e w9 ⟨v9,rfl,a9,b9,ha⟩;replace HA:=a0b ha;clear ha;have k9:IntKind.i64.wrap (1+v9)=1+v9:=a0G (by omega) (by omega);have z9:=Txt.a0I (1+v9) (by omega) (by omega))
     |(go_at_call 22;refine (a3L HA.out _ (by omega) (by omega)).mono ?_;rintro e w8 ⟨rfl,ha⟩;replace HA:=a0b ha;clear ha))
    go_ret;exact⟨_,rfl,by simp only[ByteArray.size_append];show y.size+7+_<=120;omega,HA.out⟩
  clear h12
  by_cases hv1:v1=1
  ·subst hv1
   go_upto_region 11 with fail
   have HZ:=a0b (HA.out.alloc (.cells #[.string ⟨#[32,109,111]⟩,.string ⟨#[32,116,117,44,119,101]⟩,.string ⟨#[32,115,117,44,102,114,44,109,111]⟩] 9))
   have hcl:∀ n:Nat,n<3->∃ z:ByteArray,z.size<=9/\(w3.alloc (.cells #[.string ⟨#[32,109,111]⟩,.string ⟨#[32,116,117,44,119,101]⟩,.string ⟨#[32,115,117,44,102,114,44,109,111]⟩] 9)).cell? ⟨w3.heap.size,n,none⟩=some (.string z):=fun n hn=>by
    have hb:=a0p w3 (.cells #[.string ⟨#[32,109,111]⟩,.string ⟨#[32,116,117,44,119,101]⟩,.string ⟨#[32,115,117,44,102,114,44,109,111]⟩] 9)
    match n,hn with
    |0,_=>exact⟨⟨#[32,109,111]⟩,by decide,by simp only[World.cell?,hb];rfl⟩
    |1,_=>exact⟨⟨#[32,116,117,44,119,101]⟩,by decide,by simp only[World.cell?,hb];rfl⟩
    |2,_=>exact⟨⟨#[32,115,117,44,102,114,44,109,111]⟩,by decide,by simp only[World.cell?,hb];rfl⟩
    |n+3,hn=>omega
   have HC:=a0b hcl;clear hcl;have hne:w3.heap.size≠F:=by have:=HA.out.lt;omega
   have HNE:=a0b hne;clear hne;generalize w3.alloc (.cells #[.string ⟨#[32,109,111]⟩,.string ⟨#[32,116,117,44,119,101]⟩,.string ⟨#[32,115,117,44,102,114,44,109,111]⟩] 9)=Z at HZ HC ⊢
   have NZ:Hid (Calls Tryz.prog 26 #[.pointer (some ⟨F,0,none⟩),.int .i64 3] Z fun e w'=>∃ (n:Nat) (z:ByteArray),e=.returned (.int .i64 (n:Int))/\(n:Int)<3/\z.size<=9/\w'.cell? ⟨w3.heap.size,n,none⟩=some (.string z)/\FW w0 F s w'):=by
    refine (a1h (w0:=Z) (w:=Z) (F:=F) (s:=s) ⟨HZ.out.fd,HZ.out.env,Off.refl _ _,HZ.out.ten⟩ 3 (by omega) (by omega)).mono ?_
    rintro e w' ⟨v,rfl,v0,v1,k⟩;obtain⟨n,rfl⟩:=Int.eq_ofNat_of_zero_le v0;obtain⟨z,hz,hc⟩:=HC.out n (by omega)
    exact⟨n,z,rfl,v1,hz,k.off.cell (by simp;exact HNE.out) hc,k.fd,k.env,HZ.out.off.trans k.off,k.ten⟩
   clear HC HNE HZ HA
   go_wp2_with (first
    |(go_at_call 26;refine NZ.out.mono ?_;rintro e w4 ⟨n4,z4,rfl,n3,hz4,hc4,ha4⟩;have HA:=a0b ha4;clear ha4))
   exact KK12 _ _ _ _ _ _ _ _ _ _ _ _ _ _ _ _ _ _ _ _ _ _ _ _ _ _ (by rw[ByteArray.size_append];omega) HA.out
  ·have hb:(v1==1)=false:=by simpa using hv1
   go_wp2_with fail
   exact KK12 _ _ _ _ _ _ _ _ _ _ _ _ _ _ _ _ _ _ _ _ _ _ _ _ _ _ (by omega) HA.out
 clear h8
 by_cases hv1:v1=1
 ·have hb:(v1==1)=true:=by simpa using hv1
  clear hv1
  go_wp2_with fail
  exact KK8 _ _ _ _ _ _ _ ⟨#[119,101,101,107,108,121,32]⟩ _ (by decide) HA.out
 ·have hb:(v1==1)=false:=by simpa using hv1
  by_cases hv2:v1=2
  ·have hb2:(v1==2)=true:=by simpa using hv2
   clear hv1 hv2
   go_wp2_with fail
   exact KK8 _ _ _ _ _ _ _ ⟨#[109,111,110,116,104,108,121,32]⟩ _ (by decide) HA.out
  ·have hb2:(v1==2)=false:=by simpa using hv2
   go_wp2_with fail
   exact KK8 _ _ _ _ _ _ _ ⟨#[100,97,105,108,121,32]⟩ _ (by decide) HA.out
open Go
def b0r(n:Nat)(listed:Array Bool):Nat:=((List.range n).filter fun i=>!listed.getD i true).length
theorem b7H{n:Nat}{listed:Array Bool}(hs:listed.size=n)(hi:listed.getD i true=false):b0r n (listed.setIfInBounds i true)<b0r n listed:=by
 have hin:i<listed.size:=by
  apply Classical.byContradiction;intro h;rw[Array.getD_eq_getD_getElem?,Array.getElem?_eq_none (by omega)] at hi
  cases hi
 have hg:∀ j,(listed.setIfInBounds i true).getD j true=(decide (j=i) || listed.getD j true):=fun j=>by
  by_cases e:j=i
  ·subst e;simp[Array.getD_eq_getD_getElem?,hin]
  ·have e':¬ i=j:=fun h=>e h.symm
   simp[Array.getD_eq_getD_getElem?,e,e']
 unfold b0r
 have:(List.range n).filter (fun j=>!(listed.setIfInBounds i true).getD j true)=((List.range n).filter fun j=>!listed.getD j true).filter (fun j=>!decide (j=i)):=by
  rw[List.filter_filter]
  congr 1
  funext j
  rw[hg j]
  cases decide (j=i) <;> simp
 rw[this];have hm:i∈(List.range n).filter fun j=>!listed.getD j true:=List.mem_filter.2 ⟨List.mem_range.2 (by omega),by rw[hi];rfl⟩
 exact List.length_filter_lt_length_iff_exists.2 ⟨i,hm,by simp⟩
theorem c0H{listed:Array Bool}(h:i<listed.size)(b c:Bool):listed.getD i b=listed.getD i c:=by
 simp[Array.getD_eq_getD_getElem?,h]
theorem b6T{listed:Array Bool}(h:i<listed.size):(fun j=>(listed.setIfInBounds i true).getD j false)=fun j=>decide (j=i) || listed.getD j false:=by
 funext j
 by_cases e:j=i
 ·subst e;simp[Array.getD_eq_getD_getElem?,h]
 ·have e':¬ i=j:=fun h=>e h.symm
  simp[Array.getD_eq_getD_getElem?,e,e']
section
variable {P:Program}{ops:Array Oper}{Q:Exit->Act->World->Prop}{md:Region.Mode}{n:Nat}
theorem b1f(hn:ops.size=n)(hord:∀ (i:Nat)(o:Oper),ops[i]?=some o->(o.after.all fun e=>!Region.binds md e || decide (e.on<i))=true){listed:Array Bool}(hs:listed.size=n)(hr:Region.ready md ops listed=[]):∀ i,i<n->listed.getD i false=true:=by
 intro i
 induction i using Nat.strongRecOn with
 |_ i ih =>
  intro hi;apply Classical.byContradiction;intro hc;have hc':listed.getD i true=false:=by rw[c0H (by omega) true false];simpa using hc
  obtain⟨o,ho⟩:∃ o,ops[i]?=some o:=⟨_,Array.getElem?_eq_getElem (by omega)⟩
  have hm:i∈Region.ready md ops listed:=by
   refine List.mem_filter.2 ⟨List.mem_range.2 (by omega),?_⟩
   rw[hc',ho];have h1:=hord i o ho;rw[Array.all_eq_true'] at h1;show (!false && (o.after.all fun e=>!Region.binds md e || listed.getD e.on false))=true
   rw[Bool.not_false,Bool.true_and,Array.all_eq_true'];intro e he;have h2:=h1 e he
   cases hb:Region.binds md e
   ·rfl
   ·rw[hb] at h2;have h3:e.on<i:=by simpa using h2
    rw[ih e.on h3 (by omega)];rfl
  rw[hr] at hm
  cases hm
def a9X(md:Region.Mode)(ops:Array Oper)(L:Nat->Bool):Prop:=∀ (i:Nat)(o:Oper),ops[i]?=some o->L i=true->(o.after.all fun e=>!Region.binds md e || L e.on)=true
theorem a9X.more{L:Nat->Bool}(h:a9X md ops L){o:Oper}(ho:ops[i]?=some o)(hd:(o.after.all fun e=>!Region.binds md e || L e.on)=true):a9X md ops (fun j=>decide (j=i) || L j):=by
 intro j q hq hj
 have up:∀ (q:Oper),(q.after.all fun e=>!Region.binds md e || L e.on)=true->(q.after.all fun e=>!Region.binds md e || (decide (e.on=i) || L e.on))=true:=fun q hq=>by
  rw[Array.all_eq_true'] at hq ⊢;intro e he;have:=hq e he
  cases hb:Region.binds md e
  ·rfl
  ·rw[hb] at this;have h1:L e.on=true:=by simpa using this
   rw[h1];simp
 by_cases e:j=i
 ·subst e;rw[ho] at hq
  cases hq
  exact up o hd
 ·have:L j=true:=by simpa[e] using hj
  exact up q (h j q hq this)
theorem b8W(hn:ops.size=n)(hord:∀ (i:Nat)(o:Oper),ops[i]?=some o->(o.after.all fun e=>!Region.binds md e || decide (e.on<i))=true)(I:(Nat->Bool)->Act->World->Prop)
  (hstep:∀ (L:Nat->Bool) (a:Act) (w:World) (i:Nat) (o:Oper),a9X md ops L->I L a w->ops[i]?=some o->L i=false->(o.after.all fun e=>!Region.binds md e || L e.on)=true->∀ K:Act->World->Prop,(∀ a' w',I (fun j=>decide (j=i) || L j) a' w'->K a' w')->if Region.wanted o (yielded ops a.tmps)=true then Oper.wp P o a w K Q else K (a.put o.dst undef) w)
  (hdone:∀ (L:Nat->Bool) (a:Act) (w:World),(∀ i,i<n->L i=true)->I L a w->Q .normal a w):
  ∀ (fuel:Nat) (listed:Array Bool) (a:Act) (w:World),listed.size=n->b0r n listed<=fuel->a9X md ops (fun j=>listed.getD j false)->I (fun j=>listed.getD j false) a w->wpAny P md ops Q fuel listed a w:=by
 intro fuel
 induction fuel with
 |zero =>
  intro listed a w hs ht hcl hI
  have hr:Region.ready md ops listed=[]:=by
   apply Classical.byContradiction;intro hne;obtain⟨i,hi⟩:=List.exists_mem_of_ne_nil _ hne;obtain⟨h1,h2⟩:=List.mem_filter.1 hi
   have h3:listed.getD i true=false:=by
    rw[Bool.and_eq_true] at h2
    simpa using h2.1
   have:i∈(List.range n).filter fun i=>!listed.getD i true:=List.mem_filter.2 ⟨by rw[<- hn];exact h1,by rw[h3];rfl⟩
   have:=List.length_pos_of_mem this;unfold b0r at ht;omega
  exact⟨hr,hdone _ _ _ (b1f hn hord hs hr) hI⟩
 |succ fuel ih =>
  intro listed a w hs ht hcl hI;refine⟨fun hr=>hdone _ _ _ (b1f hn hord hs hr) hI,fun i hi=>?_⟩
  obtain⟨h1,h2⟩:=List.mem_filter.1 hi;have hin:i<n:=by rw[<- hn];exact List.mem_range.1 h1
  rw[Bool.and_eq_true] at h2;have h3:listed.getD i true=false:=by simpa using h2.1
  obtain⟨o,ho⟩:∃ o,ops[i]?=some o:=⟨_,Array.getElem?_eq_getElem (by omega)⟩
  have h4:(o.after.all fun e=>!Region.binds md e || listed.getD e.on false)=true:=by
   have:=h2.2;rw[ho] at this;exact this
  refine wpOp_step ho (fun K hK=>hstep _ a w i o hcl hI ho ?_ h4 K (fun a' w' hI'=>hK _ _ (ih _ _ _ (by simpa using hs) ?_ ?_ ?_)))
  ·rw[<- c0H (by omega) true false];exact h3
  ·have:=b7H hs h3;omega
  ·rw[b6T (by omega)];exact hcl.more ho h4
  ·rw[b6T (by omega)];exact hI'
theorem b6C(n:Nat):(fun j=>(Array.replicate n false).getD j false)=fun _=>false:=by
 funext j
 by_cases h:j<n <;> simp[Array.getD_eq_getD_getElem?,h]
theorem a6t{id:Nat}{a:Act}(hm:P.follows .mixedOrders=true)(hord:∀ (i:Nat)(o:Oper),ops[i]?=some o->(o.after.all fun e=>!Region.binds .any e || decide (e.on<i))=true)(I:(Nat->Bool)->Act->World->Prop)(h0:I (fun _=>false) a w.drew)
  (hstep:∀ (L:Nat->Bool) (a:Act) (w:World) (i:Nat) (o:Oper),a9X .any ops L->I L a w->ops[i]?=some o->L i=false->(o.after.all fun e=>!Region.binds .any e || L e.on)=true->∀ K:Act->World->Prop,(∀ a' w',I (fun j=>decide (j=i) || L j) a' w'->K a' w')->if Region.wanted o (yielded ops a.tmps)=true then Oper.wp P o a w K Q else K (a.put o.dst undef) w)
  (hdone:∀ (L:Nat->Bool) (a:Act) (w:World),(∀ i,i<ops.size->L i=true)->I L a w->Q .normal a w):(Code.region id ops true).wp P Q a w:=by
 refine wp_region_any hm (b8W rfl hord I hstep hdone ops.size (Array.replicate ops.size false) a _ (by simp) ?_ ?_ ?_)
 ·unfold b0r;exact Nat.le_trans (List.length_filter_le _ _) (by simp)
 ·rw[b6C];intro i o _ h;cases h
 ·rw[b6C];exact h0
end
theorem FW.self(h:FW w0 F s w):FW w F s w:=⟨h.fd,h.env,Off.refl _ _,h.ten⟩
theorem FW.back(h:FW w0 F s w)(k:FW w F s w'):FW w0 F s w':=⟨k.fd,k.env,h.off.trans k.off,k.ten⟩
theorem c5s(args:Array Value)(w:World):(callFunc 26 args).run Tryz.prog w=.ok (.enter 26 args) w:=enters_of Tryz.func26 (by kernel_rfl) rfl args w
theorem c5q(args:Array Value)(w:World):(callFunc 49 args).run Tryz.prog w=.ok (.enter 49 args) w:=enters_of Tryz.func49 (by kernel_rfl) rfl args w
structure c1B(g F:Nat)(W:World):Prop where
 ne:g≠F
 c:∀ n:Nat,n<2->∃ z:ByteArray,z.size<=4/\W.cell? ⟨g,n,none⟩=some (.string z)
theorem c1B.off(h:c1B g F W)(k:Off [F] W W'):c1B g F W':=⟨h.ne,fun n hn=>by
 obtain⟨z,hz,hc⟩:=h.c n hn
 exact⟨z,hz,k.cell (by simp;exact h.ne) hc⟩⟩
theorem c1B.alloc(h:c1B g F W)(o:Obj):c1B g F (W.alloc o):=h.off (Off.of_below ((Below.refl _ _).alloc (Nat.le_refl _) _))
theorem c1B.new(h:FW w0 F s W):c1B W.heap.size F (W.alloc (.cells #[.string ⟨#[97,32,49,32]⟩,.string ⟨#[98,32,50,32]⟩] 9)):=⟨by have:=h.lt;omega,fun n hn=>by
 have hb:=a0p W (.cells #[.string ⟨#[97,32,49,32]⟩,.string ⟨#[98,32,50,32]⟩] 9)
 match n,hn with
 |0,_=>exact⟨⟨#[97,32,49,32]⟩,by decide,by simp only[World.cell?,hb];rfl⟩
 |1,_=>exact⟨⟨#[98,32,50,32]⟩,by decide,by simp only[World.cell?,hb];rfl⟩
 |n+2,hn=>omega⟩
def c0h : Oper := { dst := some 56, op := Op.buildSlice 26 2 #[(0, Operand.const (Value.string { data := #[97, 32, 49, 32] })), (1, Operand.const (Value.string { data := #[98, 32, 50, 32] }))], type := 26, pos := "build.go:117", after := #[], guard := none }
def c0g : Oper := { dst := some 57, op := Op.move (Operand.tmp 0), type := 45, pos := "build.go:117", after := #[], guard := none }
def b6x : Oper := { dst := some 58, op := Op.call { callee := Callee.value (Operand.func 26), args := #[Operand.tmp 57, Operand.const (Value.int IntKind.i64 2)], argTypes := #[45, 3] }, type := 3, pos := "build.go:117", after := #[{ on := 1, ground := Ground.data }], guard := none }
def b6w : Oper := { dst := some 59, op := Op.indexAddr 26 (Operand.tmp 56) (Operand.tmp 58), type := 0, pos := "build.go:117", after := #[{ on := 0, ground := Ground.data }, { on := 2, ground := Ground.data }], guard := none }
def b6v : Oper := { dst := some 60, op := Op.load 9 (Operand.tmp 59), type := 9, pos := "build.go:117", after := #[{ on := 3, ground := Ground.data }], guard := none }
def b6u : Oper := { dst := some 61, op := Op.binOp BinOp.add 9 (Operand.const (Value.string { data := #[115, 101, 114, 105, 101, 115, 32] })) (Operand.tmp 60) 9, type := 9, pos := "build.go:117", after := #[{ on := 4, ground := Ground.data }], guard := none }
def c0f : Oper := { dst := some 62, op := Op.move (Operand.tmp 0), type := 45, pos := "build.go:117", after := #[], guard := none }
def b6t : Oper := { dst := some 63, op := Op.call { callee := Callee.value (Operand.func 49), args := #[Operand.tmp 62], argTypes := #[45] }, type := 9, pos := "build.go:117", after := #[{ on := 6, ground := Ground.data }, { on := 2, ground := Ground.chain }], guard := none }
def b6s : Oper := { dst := some 64, op := Op.binOp BinOp.add 9 (Operand.tmp 61) (Operand.tmp 63) 9, type := 9, pos := "build.go:117", after := #[{ on := 5, ground := Ground.data }, { on := 7, ground := Ground.data }], guard := none }
def b6r : Oper := { dst := some 2, op := Op.assign (Operand.tmp 64), type := 9, pos := "build.go:117", after := #[{ on := 8, ground := Ground.data }, { on := 7, ground := Ground.chain }, { on := 0, ground := Ground.phase }, { on := 1, ground := Ground.phase }, { on := 2, ground := Ground.phase }, { on := 3, ground := Ground.phase }, { on := 4, ground := Ground.phase }, { on := 5, ground := Ground.phase }, { on := 6, ground := Ground.phase }, { on := 7, ground := Ground.phase }, { on := 8, ground := Ground.phase }], guard := none }
def c3W:Array Oper:=#[c0h,c0g,b6x,b6w,b6v,b6u,c0f,b6t,b6s,b6r]
structure c7D(w0:World)(F:Nat)(s:ByteArray)(L:Nat->Bool)(u2 u56 u57 u58 u59 u60 u61 u62 u63 u64:Value)(W:World):Prop where
 fw:FW w0 F s W
 f0:L 0=true->∃ g,u56=.slice (some ⟨g,0,none⟩) 2 2/\c1B g F W
 f1:L 1=true->u57=.pointer (some ⟨F,0,none⟩)
 f2:L 2=true->∃ n:Nat,n<2/\u58=.int .i64 (n:Int)
 f3:L 3=true->∃ (g n:Nat),n<2/\u59=.pointer (some ⟨g,n,none⟩)/\c1B g F W
 f4:L 4=true->∃ z:ByteArray,z.size<=4/\u60=.string z
 f5:L 5=true->∃ z:ByteArray,z.size<=4/\u61=.string ((⟨#[115,101,114,105,101,115,32]⟩:ByteArray)++z)
 f6:L 6=true->u62=.pointer (some ⟨F,0,none⟩)
 f7:L 7=true->∃ t:ByteArray,t.size<=120/\u63=.string t
 f8:L 8=true->∃ (z t:ByteArray),z.size<=4/\t.size<=120/\u64=.string (((⟨#[115,101,114,105,101,115,32]⟩:ByteArray)++z)++t)
 f9:L 9=true->∃ (z t:ByteArray),z.size<=4/\t.size<=120/\u2=.string (((⟨#[115,101,114,105,101,115,32]⟩:ByteArray)++z)++t)
theorem c6i{t3 t4 t5 t6 t7 t8 t9 t10 t11 t12 t13 t14 t15 t16 t17 t18 t19 t20 t21 t22 t23 t24 t25 t26 t27 t28 t29 t30 t31 t32 t33 t34 t35 t36 t37 t38 t39 t40 t41 t42 t43 t44 t45 t46 t47 t48 t49 t50 t51 t52 t53 t54 t55:Value}{Q:Exit->Act->World->Prop}{Y:World}(hY:FW w0 F s Y)(KK:∀ (u56 u57 u58 u59 u60 u61 u62 u63 u64:Value)(z t:ByteArray)(W:World),z.size<=4->t.size<=120->FW w0 F s W->Q .normal {tmps:=#[.pointer (some ⟨F,0,none⟩),undef,(.string (((⟨#[115,101,114,105,101,115,32]⟩:ByteArray)++z)++t)),t3,t4,t5,t6,t7,t8,t9,t10,t11,t12,t13,t14,t15,t16,t17,t18,t19,t20,t21,t22,t23,t24,t25,t26,t27,t28,t29,t30,t31,t32,t33,t34,t35,t36,t37,t38,t39,t40,t41,t42,t43,t44,t45,t46,t47,t48,t49,t50,t51,t52,t53,t54,t55,u56,u57,u58,u59,u60,u61,u62,u63,u64,undef,undef,undef,undef,undef],defers:=[] } W):
  (Code.region 18 c3W true).wp Tryz.prog Q { tmps:=#[.pointer (some ⟨F,0,none⟩),undef,.string ⟨#[]⟩,t3,t4,t5,t6,t7,t8,t9,t10,t11,t12,t13,t14,t15,t16,t17,t18,t19,t20,t21,t22,t23,t24,t25,t26,t27,t28,t29,t30,t31,t32,t33,t34,t35,t36,t37,t38,t39,t40,t41,t42,t43,t44,t45,t46,t47,t48,t49,t50,t51,t52,t53,t54,t55,undef,undef,undef,undef,undef,undef,undef,undef,undef,undef,undef,undef,undef,undef],defers:=[] } Y:=by
 refine a6t (by kernel_rfl) ?ord (fun L a W=>∃ u2 u56 u57 u58 u59 u60 u61 u62 u63 u64:Value,a={ tmps:=#[.pointer (some ⟨F,0,none⟩),undef,u2,t3,t4,t5,t6,t7,t8,t9,t10,t11,t12,t13,t14,t15,t16,t17,t18,t19,t20,t21,t22,t23,t24,t25,t26,t27,t28,t29,t30,t31,t32,t33,t34,t35,t36,t37,t38,t39,t40,t41,t42,t43,t44,t45,t46,t47,t48,t49,t50,t51,t52,t53,t54,t55,u56,u57,u58,u59,u60,u61,u62,u63,u64,undef,undef,undef,undef,undef],defers:=[] }/\c7D w0 F s L u2 u56 u57 u58 u59 u60 u61 u62 u63 u64 W) ?start ?step ?done
 case ord =>
  have hall:((List.range 10).all fun j=>match c3W[j]? with|some o=>(o.after.all fun e=>!Region.binds .any e || decide (e.on<j))|none=>true)=true:=by decide +kernel
  intro j o ho;have hj:j<10:=(Array.getElem?_eq_some_iff.1 ho).1;have:=List.all_eq_true.1 hall j (List.mem_range.2 hj);rw[ho] at this;exact this
 case start =>
  exact⟨_,_,_,_,_,_,_,_,_,_,rfl,⟨hY.drew,fun e=>(nomatch e),fun e=>(nomatch e),fun e=>(nomatch e),fun e=>(nomatch e),fun e=>(nomatch e),fun e=>(nomatch e),fun e=>(nomatch e),fun e=>(nomatch e),fun e=>(nomatch e),fun e=>(nomatch e)⟩⟩
 case done =>
  rintro L a W hall ⟨u2,u56,u57,u58,u59,u60,u61,u62,u63,u64,rfl,h⟩;obtain⟨z,t,hz,ht,rfl⟩:=h.f9 (hall 9 (by decide))
  exact KK u56 u57 u58 u59 u60 u61 u62 u63 u64 z t W hz ht h.fw
 case step =>
  rintro L a W j o hcl ⟨u2,u56,u57,u58,u59,u60,u61,u62,u63,u64,rfl,h⟩ ho hL hd K hK;have hj:j<10:=(Array.getElem?_eq_some_iff.1 ho).1
  match j,hj,ho,hL,hd,hK with
  |0,_,ho,hL,hd,hK =>
   obtain rfl:c0h=o:=Option.some.inj ho;clear hd hcl;unfold c0h
   go_simp
   exact hK _ _ ⟨_,_,_,_,_,_,_,_,_,_,rfl,⟨h.fw.alloc _,fun _=>⟨W.heap.size,rfl,c1B.new h.fw⟩,h.f1,h.f2,fun e=>(h.f3 e).imp fun g hg=>hg.imp fun n hn=>⟨hn.1,hn.2.1,hn.2.2.alloc _⟩,h.f4,h.f5,h.f6,h.f7,h.f8,h.f9⟩⟩
  |1,_,ho,hL,hd,hK =>
   obtain rfl:c0g=o:=Option.some.inj ho;clear hd hcl;unfold c0g
   go_simp
   exact hK _ _ ⟨_,_,_,_,_,_,_,_,_,_,rfl,⟨h.fw,h.f0,fun _=>rfl,h.f2,h.f3,h.f4,h.f5,h.f6,h.f7,h.f8,h.f9⟩⟩
  |2,_,ho,hL,hd,hK =>
   obtain rfl:b6x=o:=Option.some.inj ho;have dd_:L 1=true:=by simpa[Region.binds,b6x] using hd
   have d1:=dd_;clear dd_;clear hd hcl;unfold b6x;obtain rfl:=h.f1 d1;refine a2k (by rfl) 26 _ _ (by rfl) _ (by simp[Act.eval]) (c5s _ _) (a1h h.fw.self 2 (by omega) (by omega)) ?_
   rintro e w7 ⟨v,rfl,v0,v1,k7⟩;refine⟨_,rfl,?_⟩;have ho7:=k7.off;obtain⟨n,rfl⟩:=Int.eq_ofNat_of_zero_le v0;exact hK _ _ ⟨_,_,_,_,_,_,_,_,_,_,rfl,⟨h.fw.back k7,fun e=>(h.f0 e).imp fun g hg=>⟨hg.1,hg.2.off ho7⟩,fun _=>rfl,fun _=>⟨n,by omega,rfl⟩,fun e=>(h.f3 e).imp fun g hg=>hg.imp fun n hn=>⟨hn.1,hn.2.1,hn.2.2.off ho7⟩,h.f4,h.f5,h.f6,h.f7,h.f8,h.f9⟩⟩
  |3,_,ho,hL,hd,hK =>
   obtain rfl:b6w=o:=Option.some.inj ho;have dd_:L 0=true/\L 2=true:=by simpa[Region.binds,b6w] using hd
   have d0:=dd_.1;have d2:=dd_.2;clear dd_;clear hd hcl;unfold b6w;obtain⟨g,rfl,hg⟩:=h.f0 d0;obtain⟨n,hn,rfl⟩:=h.f2 d2;have hn':(n:Int)<2:=by omega
   go_simp
   exact hK _ _ ⟨_,_,_,_,_,_,_,_,_,_,rfl,⟨h.fw,fun _=>⟨g,rfl,hg⟩,h.f1,fun _=>⟨n,hn,rfl⟩,fun _=>⟨g,n,hn,rfl,hg⟩,h.f4,h.f5,h.f6,h.f7,h.f8,h.f9⟩⟩
  |4,_,ho,hL,hd,hK =>
   obtain rfl:b6v=o:=Option.some.inj ho;have dd_:L 3=true:=by simpa[Region.binds,b6v] using hd
   have d3:=dd_;clear dd_;clear hd hcl;unfold b6v;obtain⟨g,n,hn,rfl,hg⟩:=h.f3 d3;obtain⟨z,hz,hc⟩:=hg.c n hn
   go_simp
   exact hK _ _ ⟨_,_,_,_,_,_,_,_,_,_,rfl,⟨h.fw,h.f0,h.f1,h.f2,fun _=>⟨g,n,hn,rfl,hg⟩,fun _=>⟨z,hz,rfl⟩,h.f5,h.f6,h.f7,h.f8,h.f9⟩⟩
  |5,_,ho,hL,hd,hK =>
   obtain rfl:b6u=o:=Option.some.inj ho;have dd_:L 4=true:=by simpa[Region.binds,b6u] using hd
   have d4:=dd_;clear dd_;clear hd hcl;unfold b6u;obtain⟨z,hz,rfl⟩:=h.f4 d4;have sz:¬ (9223372036854775807<7+z.size):=by omega
   go_simp
   exact hK _ _ ⟨_,_,_,_,_,_,_,_,_,_,rfl,⟨h.fw,h.f0,h.f1,h.f2,h.f3,fun _=>⟨z,hz,rfl⟩,fun _=>⟨z,hz,rfl⟩,h.f6,h.f7,h.f8,h.f9⟩⟩
  |6,_,ho,hL,hd,hK =>
   obtain rfl:c0f=o:=Option.some.inj ho;clear hd hcl;unfold c0f
   go_simp
   exact hK _ _ ⟨_,_,_,_,_,_,_,_,_,_,rfl,⟨h.fw,h.f0,h.f1,h.f2,h.f3,h.f4,h.f5,fun _=>rfl,h.f7,h.f8,h.f9⟩⟩
  |7,_,ho,hL,hd,hK =>
   obtain rfl:b6t=o:=Option.some.inj ho;have dd_:L 6=true/\L 2=true:=by simpa[Region.binds,b6t] using hd
   have d6:=dd_.1;clear dd_;clear hd hcl;unfold b6t;obtain rfl:=h.f6 d6;refine a2k (by rfl) 49 _ _ (by rfl) _ (by simp[Act.eval]) (c5q _ _) (c0B h.fw.self) ?_
   rintro e w7 ⟨t,rfl,ht,k7⟩;refine⟨_,rfl,?_⟩;have ho7:=k7.off;exact hK _ _ ⟨_,_,_,_,_,_,_,_,_,_,rfl,⟨h.fw.back k7,fun e=>(h.f0 e).imp fun g hg=>⟨hg.1,hg.2.off ho7⟩,h.f1,h.f2,fun e=>(h.f3 e).imp fun g hg=>hg.imp fun n hn=>⟨hn.1,hn.2.1,hn.2.2.off ho7⟩,h.f4,h.f5,fun _=>rfl,fun _=>⟨t,ht,rfl⟩,h.f8,h.f9⟩⟩
  |8,_,ho,hL,hd,hK =>
   obtain rfl:b6s=o:=Option.some.inj ho;have dd_:L 5=true/\L 7=true:=by simpa[Region.binds,b6s] using hd
   have d5:=dd_.1;have d7:=dd_.2;clear dd_;clear hd hcl;unfold b6s;obtain⟨z,hz,rfl⟩:=h.f5 d5;obtain⟨t,ht,rfl⟩:=h.f7 d7;have sz:¬ (9223372036854775807<7+z.size+t.size):=by omega
   go_simp
   exact hK _ _ ⟨_,_,_,_,_,_,_,_,_,_,rfl,⟨h.fw,h.f0,h.f1,h.f2,h.f3,h.f4,fun _=>⟨z,hz,rfl⟩,h.f6,fun _=>⟨t,ht,rfl⟩,fun _=>⟨z,t,hz,ht,rfl⟩,h.f9⟩⟩
  |9,_,ho,hL,hd,hK =>
   obtain rfl:b6r=o:=Option.some.inj ho
   have dd_:L 0=true/\L 1=true/\L 2=true/\L 3=true/\L 4=true/\L 5=true/\L 6=true/\L 7=true/\L 8=true:=by
    simp[Region.binds,b6r] at hd;simp[hd]
   have d8:=dd_.2.2.2.2.2.2.2.2;clear dd_;clear hd hcl;unfold b6r;obtain⟨z,t,hz,ht,rfl⟩:=h.f8 d8
   go_simp
   exact hK _ _ ⟨_,_,_,_,_,_,_,_,_,_,rfl,⟨h.fw,h.f0,h.f1,h.f2,h.f3,h.f4,h.f5,h.f6,h.f7,fun _=>⟨z,t,hz,ht,rfl⟩,fun _=>⟨z,t,hz,ht,rfl⟩⟩⟩
  |n+10,hj,_,_,_,_=>exact absurd hj (by omega)
theorem a7L(h:FW w0 F s w):
  Calls Tryz.prog 25 #[.pointer (some ⟨F,0,none⟩)] w fun e w'=>∃ nm u fr til,e=.returned (.agg #[.string nm,.int .i64 u,.int .i64 fr,.int .i64 til])/\b8U nm u fr til/\FW w0 F s w' :=
 (b0I h.self).mono fun _ _ ⟨nm,u,fr,til,e,a,k⟩=>⟨nm,u,fr,til,e,a,h.back k⟩
theorem b8U.size(h:b8U nm u fr til):nm.size<=10:=by
 rcases h.n with rfl|rfl|rfl <;> decide
theorem a9u(h:FW w0 F s w)(ha:b8U nm u fr til):
  Calls Tryz.prog 28 #[.agg #[.string nm,.int .i64 u,.int .i64 fr,.int .i64 til]] w fun e w'=>∃ t,e=.returned (.string t)/\t.size<=40/\FW w0 F s w':=by
 have b:=ha.u1;have c:=ha.u3;have d:=ha.f0;have e:=ha.f1;have f:=ha.t0;have g:=ha.t1;refine (b5S w h.env nm u fr til ha.size ⟨by omega,by omega⟩ ⟨by omega,by omega⟩ ⟨by omega,by omega⟩).mono ?_
 rintro e w' ⟨rfl,k⟩;exact⟨_,rfl,b3U ha.size ⟨by omega,by omega⟩ ⟨by omega,by omega⟩ ⟨by omega,by omega⟩,h.later k⟩
def a3S:List ByteArray:=[⟨#[98,111,111,107,32]⟩,⟨#[104,111,108,100,32]⟩,⟨#[119,97,105,116,32]⟩,⟨#[99,97,110,99,101,108,32]⟩,⟨#[99,111,110,102,105,114,109,32]⟩,⟨#[115,101,114,105,101,115,32]⟩,⟨#[116,105,99,107,32]⟩]
def c1I(t:ByteArray):Prop:=∃ p r,p∈a3S/\t=p++r
theorem b4X{p r:ByteArray}(h:p∈a3S):c1I (p++r):=⟨p,r,h,rfl⟩
theorem c5a{p b:ByteArray}(h:p∈a3S):c1I ((p++a)++b):=⟨p,a++b,h,ByteArray.append_assoc⟩
theorem c0w{p b c:ByteArray}(h:p∈a3S):c1I (((p++a)++b)++c):=⟨p,(a++b)++c,h,by rw[ByteArray.append_assoc,ByteArray.append_assoc,ByteArray.append_assoc]⟩
theorem c0C(h:FW w0 F s w):
  Calls Tryz.prog 32 #[.pointer (some ⟨F,0,none⟩)] w fun e w'=>∃ t,e=.returned (.string t)/\c1I t/\t.size<=160/\FW w0 F s w':=by
 have HA:=a0b h;clear h
 go_enter Tryz.func32,Tryz.ntmps32
 go_upto_region 2 with (first
  |(go_at_call 26;refine (a1h HA.out 12 (by omega) (by omega)).mono ?_;rintro e w1 ⟨v1,rfl,a1,b1,ha1⟩;replace HA:=a0b ha1;clear ha1))
 have hv:v1=0\/v1=1\/v1=2\/v1=3\/v1=4\/v1=5\/v1=6\/v1=7\/v1=8\/v1=9\/v1=11\/v1=10:=by omega
 clear a1 b1;rcases hv with rfl|rfl|rfl|rfl|rfl|rfl|rfl|rfl|rfl|rfl|rfl|rfl
 iterate 3
  ·go_wp2_with (first
    |(go_at_call 25;refine (a7L HA.out).mono ?_;rintro e w2 ⟨nm,u,fr,til,rfl,hok,ha⟩;replace HA:=a0b ha;have HK:=a0b hok;clear ha hok)
    |(go_at_call 28;refine (a9u HA.out HK.out).mono ?_;rintro e w3 ⟨t,rfl,ht,ha⟩;replace HA:=a0b ha;clear ha HK))
   go_ret;exact⟨_,rfl,b4X (by simp[a3S]),by rw[ByteArray.size_append];show 5+_<=160;omega,HA.out⟩
 iterate 2
  ·go_wp2_with (first
    |(go_at_call 25;refine (a7L HA.out).mono ?_;rintro e w2 ⟨nm,u,fr,til,rfl,hok,ha⟩;replace HA:=a0b ha;have HK:=a0b hok;clear ha hok)
    |(go_at_call 28;refine (a9u HA.out HK.out).mono ?_;rintro e w3 ⟨t,rfl,ht,ha⟩;replace HA:=a0b ha;clear ha HK)
    |(go_at_call 26;refine (a1h HA.out 60 (by omega) (by omega)).mono ?_;rintro e w1 ⟨v1,rfl,a1,b1,ha1⟩;replace HA:=a0b ha1;clear ha1;have k1:IntKind.i64.wrap (1+v1)=1+v1:=a0G (by omega) (by omega);have z1:=Txt.a0I (1+v1) (by omega) (by omega))
    |(go_at_call 22;refine (a3L HA.out (1+v1) (by omega) (by omega)).mono ?_;rintro e w8 ⟨rfl,ha⟩;replace HA:=a0b ha;clear ha))
   go_ret;exact⟨_,rfl,c0w (by simp[a3S]),by simp only[ByteArray.size_append];show 5+_+1+_<=160;omega,HA.out⟩
 iterate 3
  ·go_wp2_with (first
    |(go_at_call 25;refine (a7L HA.out).mono ?_;rintro e w2 ⟨nm,u,fr,til,rfl,hok,ha⟩;replace HA:=a0b ha;have HK:=a0b hok;clear ha hok)
    |(go_at_call 28;refine (a9u HA.out HK.out).mono ?_;rintro e w3 ⟨t,rfl,ht,ha⟩;replace HA:=a0b ha;clear ha HK)
    |(go_at_call 26;refine (a1h HA.out 90 (by omega) (by omega)).mono ?_;rintro e w1 ⟨v1,rfl,a1,b1,ha1⟩;replace HA:=a0b ha1;clear ha1;have k1:IntKind.i64.wrap (1+v1)=1+v1:=a0G (by omega) (by omega);have z1:=Txt.a0I (1+v1) (by omega) (by omega))
    |(go_at_call 22;refine (a3L HA.out (1+v1) (by omega) (by omega)).mono ?_;rintro e w8 ⟨rfl,ha⟩;replace HA:=a0b ha;clear ha))
   go_ret;exact⟨_,rfl,c0w (by simp[a3S]),by simp only[ByteArray.size_append];show 5+_+1+_<=160;omega,HA.out⟩
 iterate 2
  ·go_wp2_with (first
    |(go_at_call 26;refine (a1h HA.out 12 (by omega) (by omega)).mono ?_;rintro e w1 ⟨v1,rfl,a1,b1,ha1⟩;replace HA:=a0b ha1;clear ha1;have k1:IntKind.i64.wrap (1+v1)=1+v1:=a0G (by omega) (by omega);have z1:=Txt.a0I (1+v1) (by omega) (by omega))
    |(go_at_call 22;refine (a3L HA.out (1+v1) (by omega) (by omega)).mono ?_;rintro e w8 ⟨rfl,ha⟩;replace HA:=a0b ha;clear ha))
   go_ret;exact⟨_,rfl,b4X (by simp[a3S]),by rw[ByteArray.size_append];show (_:Nat)<=160;first|(show 7+_<=160;omega)|(show 8+_<=160;omega),HA.out⟩
 ·go_wp2_with (first
   |(go_at_call 26;refine (a1h HA.out 40 (by omega) (by omega)).mono ?_;rintro e w1 ⟨v1,rfl,a1,b1,ha1⟩;replace HA:=a0b ha1;clear ha1;have k1:IntKind.i64.wrap (1+v1)=1+v1:=a0G (by omega) (by omega);have z1:=Txt.a0I (1+v1) (by omega) (by omega))
   |(go_at_call 22;refine (a3L HA.out (1+v1) (by omega) (by omega)).mono ?_;rintro e w8 ⟨rfl,ha⟩;replace HA:=a0b ha;clear ha))
  go_ret;exact⟨_,rfl,b4X (by simp[a3S]),by rw[ByteArray.size_append];show 5+_<=160;omega,HA.out⟩
 ·go_upto_region 18 with fail
  refine c6i HA.out ?_;intro u56 u57 u58 u59 u60 u61 u62 u63 u64 z t W hz ht hW;have HW:=a0b hW;clear hW
  go_wp2_with fail
  go_ret;exact⟨_,rfl,c5a (by simp[a3S]),by simp only[ByteArray.size_append];show 7+_+_<=160;omega,HW.out⟩
open Desk (Ent St Ids kept a0C a0Q a1C a2e ofB a0y a2c Mid a1H a0z Inv a0h a2x a1q Rep)
structure TV(w:World)(v:Value)(ss:List ByteArray):Prop where
 form:∃ a cap,v=.slice a ss.length cap
 cell:∀ (i:Nat) (hi:i<ss.length),∃ b off cap,v=.slice (some ⟨b,off,none⟩) ss.length cap/\w.cell? ⟨b,off+i,none⟩=some (.string ss[i])
 size:∀ x∈ss,x.size<=9223372036854775807
 len:ss.length<=9223372036854775807
theorem TV.below{ss:List ByteArray}(h:TV w v ss)(k:Below w.heap.size w w'):TV w' v ss :=
 ⟨h.form,fun i hi=>by
  obtain⟨b,off,cap,e,a⟩:=h.cell i hi
  exact⟨b,off,cap,e,a0a k a⟩,h.size,h.len⟩
structure b2q(s s':St)(k:Int):Prop where
 ts:∀ nm,a0h nm s.ts≠0->a0h nm s'.ts=a0h nm s.ts
 gv:s'.given<=s.given+k
theorem b4A{s:St}(h:Inv s)(t:ByteArray):b2q s (stepT s t).1 1:=by
 unfold stepT
 cases b9K t with
 |inl q=>exact⟨fun _ _=>rfl,by show s.given<=s.given+1;omega⟩
 |inr l=>exact⟨fun nm hn=>Desk.b7F h l hn,Desk.b7Q s l⟩
def a8o(s:ByteArray)(a:Int):Obj:=.cells #[.string s,.int .i64 a] 47 (0,0)
theorem b6W(he:Env W)(s:ByteArray)(hs:s.size<=9223372036854775807):FW (W.alloc (a8o s 0)) W.heap.size s (W.alloc (a8o s 0)) :=
 ⟨⟨0,a0p W _,Nat.zero_le _,hs⟩,he.later ((Below.refl _ _).alloc (Nat.le_refl _) _),Off.refl _ _,he.size⟩
theorem b8C(h:FW (W.alloc (a8o s 0)) W.heap.size t W'):Below W.heap.size W W':=by
 have kb:Below W.heap.size W (W.alloc (a8o s 0)):=(Below.refl _ _).alloc (Nat.le_refl _) _;have k:=h.off;exact⟨k.os.trans kb.os,k.tape.trans kb.tape,k.output.trans kb.output,Nat.le_trans kb.size k.size,fun x hx=>(k.block x (Nat.lt_of_lt_of_le hx kb.size) (by simp;omega)).trans (kb.block x hx)⟩
theorem c2R(he:Env W)(s:ByteArray)(hs:s.size<=9223372036854775807):
  Calls Tryz.prog 32 #[.pointer (some ⟨W.heap.size,0,none⟩)] (W.alloc (a8o s 0)) fun e w'=>∃ t,e=.returned (.string t)/\c1I t/\t.size<=160/\Below W.heap.size W w' :=
 (c0C (b6W he s hs)).mono fun _ _ ⟨t,e,a,b,k⟩=>⟨t,e,a,b,b8C k⟩
open Desk (Ent St Ids kept a0C a0Q a1C a2e ofB a0y a2c Mid a1H a0z Inv a0h a2x a1q Rep a1Q)
structure KB(W:World)(col:Nat->Option Col)(b:Nat)(o:Obj):Prop where
 h:W.heap[b]?=some o
 c:col b=none
theorem KB.later{col:Nat->Option Col}{o:Obj}(h:KB W col b o)(k:Below W.heap.size W W'):KB W' col b o:=⟨(k.block b (Array.getElem?_eq_some_iff.1 h.h).1).trans h.h,h.c⟩
theorem KB.step{col col':Nat->Option Col}{o:Obj}(h:KB W col b o)(st:Step anyS W.heap.size col col' W W'):KB W' col' b o:=by
 obtain⟨x,y⟩:=st.still h.h h.c;exact⟨x,y⟩
def a1A(i:Nat):ByteArray:=if i=0 then ⟨#[97]⟩ else ⟨#[98]⟩
theorem a7y(i:Nat):a1A i=⟨#[97]⟩\/a1A i=⟨#[98]⟩:=by unfold a1A;split <;> simp
theorem b2x{a b:Int}(ha:1<=a)(hb:1<=b)(i:Nat):a0h (a1A i) (a3Z a b).ts≠0:=by
 rcases a7y i with e|e <;> rw[e]
 ·have:=b9b a b;unfold nmA at this;rw[this];omega
 ·have:=b9a a b;unfold nmC at this;rw[this];omega
theorem f2r(w:World)(he:Env w):Calls Tryz.prog 44 #[] w fun e w'=>∃ p d col,e=.returned (.pointer (some ⟨p,0,none⟩))/\BD w' p d st0 c2z col/\Below w.heap.size w w'/\(∀ b,b<w.heap.size->col b=none)/\w.heap.size<=p:=by
 have DN:=a0b (b5o w);have HE:=a0b he;have hsz:=he.size;clear he
 go_enter Tryz.func44,Tryz.ntmps44
 go_wp2_with (first
  |(go_at_call 60;refine DN.out.mono ?_;rintro e w1 ⟨v,rfl,rfl,hd,hb⟩))
 have HF:Hid (BD (w1.alloc (.cells #[.pointer (some ⟨w.heap.size+2,0,none⟩)] 99)) w1.heap.size (w.heap.size+2) st0 c2z (c1O w.heap.size)/\Below w.heap.size w (w1.alloc (.cells #[.pointer (some ⟨w.heap.size+2,0,none⟩)] 99))/\(∀ b,b<w.heap.size->c1O w.heap.size b=none)/\w.heap.size<=w1.heap.size):=by
  have k:Below w1.heap.size w1 (w1.alloc (.cells #[.pointer (some ⟨w.heap.size+2,0,none⟩)] 99)):=(Below.refl _ _).alloc (Nat.le_refl _) _;have hlow:∀ b,b<w.heap.size->c1O w.heap.size b=none:=fun b hb'=>by unfold c1O;rw[if_neg (by omega),if_neg (by omega),if_neg (by omega)]
  exact⟨⟨a0p w1 _,hd.dk.none (Nat.le_refl _),⟨hd.dk.later k,hd.of,hd.wl,hd.hl,hd.inv⟩,(HE.out.later hb).later k,fun b hb'=>hlow b (by omega)⟩,hb.trans (k.mono hb.size),hlow,hb.size⟩
 clear hd hb
 go_wp2_with fail
 exact bodyPost_ret (v:=.pointer (some ⟨w1.heap.size,0,none⟩)) (by simp[results,Tryz.results44,go_sem]) rfl ⟨_,_,_,rfl,HF.out⟩
theorem f0a(w:World)(he:Env w)(a b:Int)(ha:1<=a/\a<=9)(hb:1<=b/\b<=9):
  Calls Tryz.prog 18 #[.agg #[.int .i64 a,.int .i64 b]] w fun e w'=>∃ p dk r col,e=.returned (.tuple #[.pointer (some ⟨p,0,none⟩),.bool true])/\DG w w' p dk (a3Z a b) r col/\w.heap.size<=p:=by
 have hX:Below w.heap.size w (w.alloc (a1T a b)):=(Below.refl _ _).alloc (Nat.le_refl _) _;have hq:(w.alloc (a1T a b)).heap[w.heap.size]?=some (a1T a b):=a0p w _;have z1:=Txt.a0I a (by omega) (by omega)
 have z2:=Txt.a0I b (by omega) (by omega)
 have NE:=a0b (f2r _ (he.later hX));have HX:=a0b (And.intro hX hq);have TA:Hid (Reads ((⟨#[116,104,105,110,103,32,97,32]⟩:ByteArray)++Txt.a0x a) (.iface 149 (.agg #[.string nmA,.int .i64 a]))):=a8K c7k ha (by rw[Txt.a1X];rfl)
 have TB:Hid (Reads ((⟨#[116,104,105,110,103,32,98,32]⟩:ByteArray)++Txt.a0x b) (.iface 149 (.agg #[.string nmC,.int .i64 b]))):=a8K c7j hb (by rw[Txt.a1X];rfl)
 obtain⟨ha1,ha9⟩:=ha;obtain⟨hb1,hb9⟩:=hb;clear hX hq he
 go_enter Tryz.func18,Tryz.ntmps18
 go_upto_region 1 with fail
 change Code.wp _ _ _ _ (w.alloc (a1T a b));have hs:w.heap.size<(w.alloc (a1T a b)).heap.size:=by simp
 generalize w.alloc (a1T a b)=X at *
 go_upto_region 4 with (first
  |(go_at_call 44;refine NE.out.mono ?_;rintro e w1 ⟨p,dk,c1O,rfl,bd,hbw,hlo,hpp⟩))
 have HPP:=a0b (Nat.le_trans (Nat.le_of_lt hs) hpp);clear hpp;have D1:=a0b (DG.mk bd hbw hlo);have hr1:=(hbw.block w.heap.size hs).trans HX.out.2;clear NE bd hbw hlo
 have RO:Hid (∀ W':World,Below X.heap.size X W'->W'.cell? ⟨w.heap.size,0,none⟩=some (.int .i64 a)/\W'.cell? ⟨w.heap.size,1,none⟩=some (.int .i64 b)):=fun W' k=>by
  have h:=(k.block w.heap.size hs).trans HX.out.2;unfold a1T at h;obtain⟨x,y,_⟩:=b0q h;exact⟨x,y⟩
 obtain⟨ra,rb⟩:=RO.out w1 D1.out.bl;clear hr1 rb
 go_upto_region 5 with (first
  |(go_at_call 22;refine (a6O a _ D1.out.bd.env (by omega) (by omega)).mono ?_;rintro e w2 ⟨rfl,hb2⟩;have D2:=a0b (D1.out.later hb2);clear hb2)
  |(go_at_call 21;refine (b2g D2.out TA.out (.a0k nmA (by decide) a) ⟨ha1,ha9⟩ (c4w a)).mono ?_;rintro e w3 ⟨l1,a1,a2,a3,a4,n2,c1,c2,c3,c4,r1,col1,rfl,P1⟩;dsimp only[List.length_nil]))
 change Code.wp _ _ _ _ (w3.alloc (a5w 0 0 0 (.slice a1 l1.length c1) (.slice a2 n2 c2) (.slice a3 0 c3) (.slice a4 0 c4)));have R1:=a0b (a0p w3 (a5w 0 0 0 (.slice a1 l1.length c1) (.slice a2 n2 c2) (.slice a3 0 c3) (.slice a4 0 c4)));have D3:=a0b (P1.dg.later ((Below.refl w3.heap.size w3).alloc (Nat.le_refl _) (a5w 0 0 0 (.slice a1 l1.length c1) (.slice a2 n2 c2) (.slice a3 0 c3) (.slice a4 0 c4))));have N1:=a0b (P1.dg.none (Nat.le_refl w3.heap.size));clear P1 D1 D2 ra;generalize w3.alloc (a5w 0 0 0 (.slice a1 l1.length c1) (.slice a2 n2 c2) (.slice a3 0 c3) (.slice a4 0 c4))=Z3 at R1 D3 ⊢;generalize w3.heap.size=B1 at R1 N1 ⊢;have rb:=(RO.out Z3 D3.out.bl).2
 go_upto_region 6 with (first
  |(go_at_call 22;refine (a6O b _ D3.out.bd.env (by omega) (by omega)).mono ?_;rintro e w4 ⟨rfl,hb4⟩;have D4:=a0b (D3.out.later hb4);have R4:=a0b ((hb4.block B1 (Array.getElem?_eq_some_iff.1 R1.out).1).trans R1.out);clear hb4)
  |(go_at_call 21;refine (b2g D4.out TB.out (.a0k nmC (by decide) b) ⟨hb1,hb9⟩ (c4v a b)).mono ?_;rintro e w5 ⟨l2,b1,b2,b3,b4,m2,d1,d2,d3,d4,r2,col2,rfl,P2⟩;dsimp only[List.length_nil]))
 change Code.wp _ _ _ _ (w5.alloc (a5w 0 0 0 (.slice b1 l2.length d1) (.slice b2 m2 d2) (.slice b3 0 d3) (.slice b4 0 d4)));obtain⟨R5,N5⟩:=P2.st.still R4.out N1.out;have kb:=(Below.refl w5.heap.size w5).alloc (Nat.le_refl _) (a5w 0 0 0 (.slice b1 l2.length d1) (.slice b2 m2 d2) (.slice b3 0 d3) (.slice b4 0 d4));have D6:=a0b (P2.dg.later kb);have e1:=(a2T ((kb.block B1 (Array.getElem?_eq_some_iff.1 R5).1).trans R5)).1;have e2:=(a2T (a0p w5 (a5w 0 0 0 (.slice b1 l2.length d1) (.slice b2 m2 d2) (.slice b3 0 d3) (.slice b4 0 d4)))).1;clear R5 N5 kb P2 rb R1 N1 D3 D4 R4 RO;generalize w5.alloc (a5w 0 0 0 (.slice b1 l2.length d1) (.slice b2 m2 d2) (.slice b3 0 d3) (.slice b4 0 d4))=Z6 at e1 e2 D6 ⊢;generalize w5.heap.size=B2 at e2 ⊢
 have HF:Hid (DG w Z6.drew p dk (a3Z a b) r2 col2):=by
  have k:=D6.out.later (a0q Z6);exact⟨k.bd,HX.out.1.trans (k.bl.mono HX.out.1.size),fun c hc=>k.lo c (Nat.lt_of_lt_of_le hc HX.out.1.size)⟩
 clear D6 HX TA TB hs
 go_big_region
 go_wp2_with fail
 go_ret2;exact⟨p,dk,r2,col2,rfl,HF.out,HPP.out⟩
open Desk (Ent St Inv a0h a2x a1q Rep)
def d1l(cc:Nat->Option (Nat × Col))(i k:Nat):Option Col :=
 match cc k with
 |some q=>if q.1=i then some q.2 else none
 |none=>none
def d1J(cc:Nat->Option (Nat × Col))(k:Nat):Option Col:=(cc k).map (·.2)
theorem d4S{cc:Nat->Option (Nat × Col)}(h:cc k=none):d1J cc k=none:=by unfold d1J;rw[h];rfl
theorem d1U{cc:Nat->Option (Nat × Col)}(h:cc k=none):d1l cc i k=none:=by unfold d1l;rw[h]
theorem c8K{cc:Nat->Option (Nat × Col)}{c:Col}:d1l cc i k=some c↔cc k=some (i,c):=by
 unfold d1l
 cases h:cc k with
 |none=>simp
 |some q =>
  obtain⟨j,d⟩:=q;simp only[Option.some.injEq,Prod.mk.injEq]
  by_cases e:j=i
  ·rw[if_pos e];simp[e]
  ·rw[if_neg e];simp[e]
structure OR where
 v:Value
 t:TypeId
 z:Nat
 n:Nat
 xs:List Value
structure f5y(W:World)(col:Nat->Option Col)(q:OR):Prop where
 own:W.ownsRow 0 q.t q.z q.v q.n q.xs
 no:∀ b,q.v.ownBlock=some b->col b=none
theorem f5y.step{col col':Nat->Option Col}{q:OR}(h:f5y W col q)(st:Step anyS W.heap.size col col' W W'):f5y W' col' q:=by
 have hv:∀ b,q.v.ownBlock=some b->col b=none/\b<W.heap.size:=fun b hb=>⟨h.no b hb,(h.own.lt b hb).2⟩
 exact⟨st.own h.own hv,fun b hb=>st.keepN (hv b hb).1 (hv b hb).2⟩
def c9T(v:Value)(l:List Int):OR:=⟨v,3,1,l.length,l.map (Value.int .i64)⟩
abbrev Dsk:=Nat × Nat × St
structure CMs(X W:World)(cc:Nat->Option (Nat × Col))(ds:List Dsk)(ks:List (Nat × Obj))(es:List (Value × List (Ent × Value)))(rs:List OR):Prop where
 dg:∀ (i:Nat) (d:Dsk),ds[i]?=some d->∃ r,DG X W d.1 d.2.1 d.2.2 r (d1l cc i)
 pp:∀ d∈ds,cc d.1=none
 ks:∀ q∈ks,KB W (d1J cc) q.1 q.2
 es:∀ q∈es,a3j W 0 (d1J cc) q.1 q.2
 rs:∀ q∈rs,f5y W (d1J cc) q
 lt:∀ k,W.heap.size<=k->cc k=none
 ev:Env W
 bl:Below X.heap.size X W
 nb:∀ k q,cc k=some q->q.1<ds.length
def CM(X W:World)(ds:List Dsk)(ks:List (Nat × Obj))(es:List (Value × List (Ent × Value)))(rs:List OR):Prop:=∃ cc,CMs X W cc ds ks es rs
theorem CM.start(he:Env X):CM X X [] [] [] []:=⟨fun _=>none,fun i d h=>by simp at h,by simp,by simp,by simp,by simp,fun _ _=>rfl,he,Below.refl _ _,fun _ _ h=>by cases h⟩
theorem CM.later{ds:List Dsk}{es:List (Value × List (Ent × Value))}{rs:List OR}(h:CM X W ds ks es rs)(k:Below W.heap.size W W'):CM X W' ds ks es rs:=by
 obtain⟨cc,h⟩:=h;have st:Step anyS W.heap.size (d1J cc) (d1J cc) W W':=Step.below k;refine⟨cc,fun i d hd=>?_,h.pp,fun q hq=>(h.ks q hq).later k,fun q hq=>(h.es q hq).step (S:=anyS) (B:=W.heap.size) st (Nat.le_refl _),fun q hq=>(h.rs q hq).step st,fun b hb=>h.lt b (Nat.le_trans k.size hb),h.ev.later k,h.bl.trans (k.mono h.bl.size),h.nb⟩
 obtain⟨r,D⟩:=h.dg i d hd;exact⟨r,D.later k⟩
theorem CM.less{ds:List Dsk}{ks':List (Nat × Obj)}{es es':List (Value × List (Ent × Value))}{rs rs':List OR}(h:CM X W ds ks es rs)(hk:∀ q∈ks',q∈ks)(he:∀ q∈es',q∈es)(hr:∀ q∈rs',q∈rs):CM X W ds ks' es' rs':=by
 obtain⟨cc,h⟩:=h;exact⟨cc,h.dg,h.pp,fun q hq=>h.ks q (hk q hq),fun q hq=>h.es q (he q hq),fun q hq=>h.rs q (hr q hq),h.lt,h.ev,h.bl,h.nb⟩
theorem CM.alloc{ds:List Dsk}{es:List (Value × List (Ent × Value))}{rs:List OR}(h:CM X W ds ks es rs)(o:Obj):CM X (W.alloc o) ds ((W.heap.size,o) :: ks) es rs:=by
 have k:Below W.heap.size W (W.alloc o):=(Below.refl _ _).alloc (Nat.le_refl _) _;obtain⟨cc,h0⟩:=h;have st:Step anyS W.heap.size (d1J cc) (d1J cc) W (W.alloc o):=Step.below k;refine⟨cc,fun i d hd=>?_,h0.pp,fun q hq=>?_,fun q hq=>(h0.es q hq).step (S:=anyS) (B:=W.heap.size) st (Nat.le_refl _),fun q hq=>(h0.rs q hq).step st,fun b hb=>h0.lt b (Nat.le_trans k.size hb),h0.ev.later k,h0.bl.trans (k.mono h0.bl.size),h0.nb⟩
 ·obtain⟨r,D⟩:=h0.dg i d hd;exact⟨r,D.later k⟩
 ·rcases List.mem_cons.1 hq with rfl|hq
  ·exact⟨a0p W o,d4S (h0.lt _ (Nat.le_refl _))⟩
  ·exact (h0.ks q hq).later k
theorem CM.env{ds:List Dsk}{es:List (Value × List (Ent × Value))}{rs:List OR}(h:CM X W ds ks es rs):Env W:=by
 obtain⟨cc,h⟩:=h;exact h.ev
theorem CM.bl{ds:List Dsk}{es:List (Value × List (Ent × Value))}{rs:List OR}(h:CM X W ds ks es rs):Below X.heap.size X W:=by
 obtain⟨cc,h⟩:=h;exact h.bl
theorem CM.inv{ds:List Dsk}{es:List (Value × List (Ent × Value))}{rs:List OR}(h:CM X W ds ks es rs){s:St}(hi:ds[i]?=some (p,dk,s)):Inv s:=by
 obtain⟨cc,h⟩:=h;obtain⟨r,D⟩:=h.dg i _ hi;exact D.inv
theorem CM.kb{ds:List Dsk}{es:List (Value × List (Ent × Value))}{rs:List OR}(h:CM X W ds ks es rs){o:Obj}(hq:(b,o)∈ks):W.heap[b]?=some o:=by
 obtain⟨cc,h⟩:=h;exact (h.ks _ hq).h
theorem CM.ev{ds:List Dsk}{es:List (Value × List (Ent × Value))}{rs:List OR}(h:CM X W ds ks es rs){l:List (Ent × Value)}(hq:(v,l)∈es):EV W v l:=by
 obtain⟨cc,h⟩:=h;exact (h.es _ hq).ev
theorem CM.row{ds:List Dsk}{es:List (Value × List (Ent × Value))}{rs:List OR}(h:CM X W ds ks es rs){q:OR}(hq:q∈rs):W.ownsRow 0 q.t q.z q.v q.n q.xs:=by
 obtain⟨cc,h⟩:=h;exact (h.rs _ hq).own
theorem CMs.step{cc:Nat->Option (Nat × Col)}{ds:List Dsk}{es:List (Value × List (Ent × Value))}{rs:List OR}(h:CMs X W cc ds ks es rs){d:Dsk}(hi:ds[i]?=some d){s':St}{r':Raw}{col':Nat->Option Col}(D':DG X W' d.1 d.2.1 s' r' col')(st:Step anyS W.heap.size (d1l cc i) col' W W'):
  ∃ cc',(∀ b,W.heap.size<=b->col' b=none->d1J cc' b=none)/\CMs X W' cc' (ds.set i (d.1,d.2.1,s')) ks es rs:=by
 let cc':Nat->Option (Nat × Col):=fun k=>match col' k with
  |some c=>some (i,c)
  |none=>cc k
 have c1:∀ {k c},col' k=some c->cc' k=some (i,c):=fun {k c} e=>by show (match col' k with|some c=>some (i,c)|none=>cc k)=_;rw[e]
 have c0:∀ {k},col' k=none->cc' k=cc k:=fun {k} e=>by show (match col' k with|some c=>some (i,c)|none=>cc k)=_;rw[e]
 have hself:d1l cc' i=col':=funext fun k=>by
  cases e:col' k with
  |some c=>exact c8K.2 (c1 e)
  |none =>
   cases e2:d1l cc' i k with
   |none=>rfl
   |some c =>
    have e3:=c8K.1 e2;rw[c0 e] at e3;have:=st.a9i k c (c8K.2 e3);rw[e] at this;cases this
 have hoth:∀ j,j≠i->d1l cc' j=d1l cc j:=fun j hj=>funext fun k=>by
  cases e:col' k with
  |none=>unfold d1l;rw[c0 e]
  |some c =>
   have e1:d1l cc' j k=none:=by
    cases e2:d1l cc' j k with
    |none=>rfl
    |some c2 =>
     have:=c8K.1 e2;rw[c1 e] at this;simp only[Option.some.injEq,Prod.mk.injEq] at this;exact absurd this.1.symm hj
   rw[e1];rcases st.new k c e with h2|h2
   ·cases e3:d1l cc j k with
    |none=>rfl
    |some c3 =>
     have x1:=c8K.1 h2;have x2:=c8K.1 e3;rw[x1] at x2;simp only[Option.some.injEq,Prod.mk.injEq] at x2;exact absurd x2.1.symm hj
   ·exact (d1U (h.lt k h2)).symm
 obtain⟨G,off,hG⟩:=st.off
 have hG2:∀ x∈G,(∃ c,cc x=some (i,c))\/W.heap.size<=x:=fun x hx=>by
  rcases hG x hx with ⟨c,e,_⟩|⟨_,e⟩
  ·exact .inl ⟨c,c8K.1 e⟩
  ·exact .inr e
 have ST:Step anyS W.heap.size (d1J cc) (d1J cc') W W':=by
  refine⟨⟨G,off,fun x hx=>?_⟩,fun k c hk=>?_,fun k c hk=>?_⟩
  ·rcases hG2 x hx with ⟨c,e⟩|e
   ·exact .inl ⟨c,by unfold d1J;rw[e];rfl,trivial⟩
   ·exact .inr ⟨d4S (h.lt x e),e⟩
  ·unfold d1J at hk ⊢
   cases e:cc k with
   |none=>rw[e] at hk;cases hk
   |some q =>
    obtain⟨j,c2⟩:=q;rw[e] at hk;simp only[Option.map_some,Option.some.injEq] at hk;subst hk
    by_cases hj:j=i
    ·subst hj;rw[c1 (st.a9i k c2 (c8K.2 e))];rfl
    ·cases e2:col' k with
     |none=>rw[c0 e2,e];rfl
     |some c3 =>
      rcases st.new k c3 e2 with h2|h2
      ·have:=c8K.1 h2;rw[e] at this;simp only[Option.some.injEq,Prod.mk.injEq] at this;exact absurd this.1 hj
      ·rw[h.lt k h2] at e;cases e
  ·unfold d1J at hk ⊢
   cases e2:col' k with
   |none=>rw[c0 e2] at hk;exact .inl hk
   |some c3 =>
    rw[c1 e2] at hk;simp only[Option.map_some,Option.some.injEq] at hk;subst hk;rcases st.new k c3 e2 with h2|h2
    ·rw[c8K.1 h2];exact .inl rfl
    ·exact .inr h2
 refine⟨cc',fun b hb hc=>by rw[d4S];rw[c0 hc];exact h.lt b hb,fun j dj hj=>?_,fun dj hdj=>?_,fun q hq=>(h.ks q hq).step ST,fun q hq=>(h.es q hq).step ST (Nat.le_refl _),fun q hq=>(h.rs q hq).step ST,fun k hk=>?_,D'.bd.env,D'.bl,fun k q hq=>?_⟩
 ·have hil:i<ds.length:=(List.getElem?_eq_some_iff.1 hi).1
  by_cases e:i=j
  ·subst e;rw[List.getElem?_set_self hil] at hj;simp only[Option.some.injEq] at hj;subst hj;exact⟨r',by rw[hself];exact D'⟩
  ·rw[List.getElem?_set_ne e] at hj;obtain⟨r,D⟩:=h.dg j dj hj
   have hp:dj.1 ∉ G:=fun hx=>by
    rcases hG2 _ hx with ⟨c,e2⟩|e2
    ·rw[h.pp dj (List.mem_of_getElem? hj)] at e2;cases e2
    ·have:=(Array.getElem?_eq_some_iff.1 D.bd.pc).1;omega
   rw[hoth j (fun x=>e x.symm)]
   refine⟨r,⟨⟨(off.block dj.1 (Array.getElem?_eq_some_iff.1 D.bd.pc).1 hp).trans D.bd.pc,D.bd.pn,⟨D.bd.ds.dk.off off (fun x hx=>?_),D.bd.ds.of,D.bd.ds.wl,D.bd.ds.hl,D.bd.ds.inv⟩,D'.bd.env,D.bd.gl⟩,D'.bl,D.lo⟩⟩
   rcases hG2 x hx with ⟨c,e2⟩|e2
   ·cases e3:d1l cc j x with
    |none=>rfl
    |some c3 =>
     have:=c8K.1 e3;rw[e2] at this;simp only[Option.some.injEq,Prod.mk.injEq] at this;exact absurd this.1 e
   ·exact d1U (h.lt x e2)
 ·have hil:i<ds.length:=(List.getElem?_eq_some_iff.1 hi).1
  have hd0:∃ d0∈ds,dj.1=d0.1:=by
   rcases List.mem_or_eq_of_mem_set hdj with e|e
   ·exact⟨dj,e,rfl⟩
   ·exact⟨d,List.mem_of_getElem? hi,by rw[e]⟩
  obtain⟨d0,m0,e0⟩:=hd0;have n0:=h.pp d0 m0;rw[<- e0] at n0;obtain⟨j,hj,ej⟩:=List.getElem_of_mem m0;obtain⟨r,D⟩:=h.dg j d0 (by rw[List.getElem?_eq_getElem hj,ej])
  have hb:dj.1<W.heap.size:=by rw[e0];exact (Array.getElem?_eq_some_iff.1 D.bd.pc).1
  rw[c0 (st.keepN (d1U n0) hb)];exact n0
 ·have hs:=st.size;rw[c0 (D'.none hk)];exact h.lt k (Nat.le_trans hs hk)
 ·rw[List.length_set]
  cases e:col' k with
  |none=>rw[c0 e] at hq;exact h.nb k q hq
  |some c =>
   rw[c1 e] at hq;simp only[Option.some.injEq] at hq;subst hq;exact (List.getElem?_eq_some_iff.1 hi).1
open Desk (Ent St Inv a0h a2x)
def MDo(X W:World)(ds:List Dsk)(i p dk:Nat)(ks:List (Nat × Obj))(es:List (Value × List (Ent × Value)))(rs:List OR)(q:St × Rep)(e:Ending)(W':World):Prop :=
 ∃ (l:List (Ent × Value)) (a1 a2 a3 a4:Option Addr) (c1 c2 c3 c4:Nat),e=.returned (.agg #[.int .i64 q.2.err,.int .i64 q.2.at_,.int .i64 q.2.n,.slice a1 l.length c1,.slice a2 q.2.days.length c2,.slice a3 q.2.granted.length c3,.slice a4 q.2.ended.length c4]) /\
  l.map (·.1)=q.2.entries/\CM X W' (ds.set i (p,dk,q.1)) ks ((.slice a1 l.length c1,l) :: es) (c9T (.slice a2 q.2.days.length c2) q.2.days :: c9T (.slice a3 q.2.granted.length c3) q.2.granted :: c9T (.slice a4 q.2.ended.length c4) q.2.ended :: rs)/\W.heap.size<=W'.heap.size
theorem a2I.orow{col:Nat->Option Col}{l:List Int}(h:a2I W B col v l){cl:Nat->Option Col}(hc:∀ b,B<=b->col b=none->cl b=none):f5y W cl (c9T v l) :=
 ⟨a9c h.own (Nat.zero_le _),fun b hb=>hc b (h.own.lt b hb).1 (h.no b hb)⟩
theorem a3j.flat{col:Nat->Option Col}{l:List (Ent × Value)}(h:a3j W B col v l){cl:Nat->Option Col}(hc:∀ b,B<=b->col b=none->cl b=none):a3j W 0 cl v l :=
 ⟨a9c h.own (Nat.zero_le _),fun b hb=>hc b (h.own.lt b hb).1 (h.no b hb),fun p hp=>⟨⟨a9c (h.sp p hp).1.own (Nat.zero_le _),fun b hb=>hc b ((h.sp p hp).1.own.lt b hb).1 ((h.sp p hp).1.no b hb)⟩,(h.sp p hp).2⟩⟩
theorem f2I{cc:Nat->Option (Nat × Col)}{ds:List Dsk}{es:List (Value × List (Ent × Value))}{rs:List OR}(h:CMs X W cc ds ks es rs){s:St}(hi:ds[i]?=some (p,dk,s)){r:Raw}(D:DG X W p dk s r (d1l cc i)){q:St × Rep}(k:b5M W p dk (d1l cc i) q v W'):MDo X W ds i p dk ks es rs q (.returned v) W':=by
 obtain⟨r',col',bd,st,en,da,gr,ed,l,rfl,he,k1,k2,k3,k4,_⟩:=k;obtain⟨a1,c1,rfl⟩:=a0B k1.own;obtain⟨a2,c2,rfl⟩:=a0B k2.own;obtain⟨a3,c3,rfl⟩:=a0B k3.own;obtain⟨a4,c4,rfl⟩:=a0B k4.own;obtain⟨cc',hfl,hC⟩:=h.step hi (D.step bd st) st;refine⟨l,a1,a2,a3,a4,c1,c2,c3,c4,rfl,he,⟨cc',hC.dg,hC.pp,hC.ks,fun x hx=>?_,fun x hx=>?_,hC.lt,hC.ev,hC.bl,hC.nb⟩,st.size⟩
 ·rcases List.mem_cons.1 hx with rfl|hx
  ·exact k1.flat hfl
  ·exact hC.es x hx
 ·rcases List.mem_cons.1 hx with rfl|hx
  ·exact k2.orow hfl
  ·rcases List.mem_cons.1 hx with rfl|hx
   ·exact k3.orow hfl
   ·rcases List.mem_cons.1 hx with rfl|hx
    ·exact k4.orow hfl
    ·exact hC.rs x hx
theorem CM.text{ds:List Dsk}{es:List (Value × List (Ent × Value))}{rs:List OR}(h:CM X W ds ks es rs)(i:Nat){s:St}(hi:ds[i]?=some (p,dk,s))(t:ByteArray):
  Calls Tryz.prog 21 #[.pointer (some ⟨p,0,none⟩),.string t] W fun e W'=>MDo X W ds i p dk ks es rs (stepT s t) e W':=by
 obtain⟨cc,h⟩:=h;obtain⟨r,D⟩:=h.dg i _ hi;exact (c5A D.bd t).mono fun _ _ ⟨_,e,k⟩=>by rw[e];exact f2I h hi D k
theorem CM.line{ds:List Dsk}{es:List (Value × List (Ent × Value))}{rs:List OR}(h:CM X W ds ks es rs)(i:Nat){s:St}(hi:ds[i]?=some (p,dk,s)){l:Desk.a7U}(hr:Reads t v)(hv:LV v l)(hl:Desk.a1O l){q:St × Rep}(hq:a1q s l=q):
  Calls Tryz.prog 21 #[.pointer (some ⟨p,0,none⟩),.string t] W fun e W'=>MDo X W ds i p dk ks es rs q e W':=by
 subst hq;obtain⟨cc,h⟩:=h;obtain⟨r,D⟩:=h.dg i _ hi;exact (b7q D.bd t hr hv hl).mono fun _ _ ⟨_,e,k⟩=>by rw[e];exact f2I h hi D k
theorem CM.begin{ds:List Dsk}{es:List (Value × List (Ent × Value))}{rs:List OR}(h:CM X W ds ks es rs)(a b:Int)(ha:1<=a/\a<=9)(hb:1<=b/\b<=9):
  Calls Tryz.prog 18 #[.agg #[.int .i64 a,.int .i64 b]] W fun e W'=>∃ p dk,e=.returned (.tuple #[.pointer (some ⟨p,0,none⟩),.bool true])/\W.heap.size<=p/\p<W'.heap.size/\CM X W' (ds++[(p,dk,a3Z a b)]) ks es rs:=by
 obtain⟨cc,h⟩:=h;refine (f0a W h.ev a b ha hb).mono ?_;rintro e W' ⟨p,dk,r,col,rfl,D,hp⟩;have hk:Below W.heap.size W W':=D.bl
 let cc':Nat->Option (Nat × Col):=fun k=>match col k with
  |some c=>some (ds.length,c)
  |none=>cc k
 have c1:∀ {k c},col k=some c->cc' k=some (ds.length,c):=fun {k c} e=>by show (match col k with|some c=>some (ds.length,c)|none=>cc k)=_;rw[e]
 have c0:∀ {k},col k=none->cc' k=cc k:=fun {k} e=>by show (match col k with|some c=>some (ds.length,c)|none=>cc k)=_;rw[e]
 have lo2:∀ {k c},col k=some c->W.heap.size<=k:=fun {k c} e=>Nat.le_of_not_lt fun hl=>by rw[D.lo k hl] at e;cases e
 have low:∀ k,k<W.heap.size->cc' k=cc k:=fun k hl=>c0 (D.lo k hl)
 have hoth:∀ j,j<ds.length->d1l cc' j=d1l cc j:=fun j hj=>funext fun k=>by
  cases e:col k with
  |none=>unfold d1l;rw[c0 e]
  |some c =>
   rw[d1U (i:=j) (h.lt k (lo2 e))]
   cases e2:d1l cc' j k with
   |none=>rfl
   |some c2 =>
    have:=c8K.1 e2;rw[c1 e] at this;simp only[Option.some.injEq,Prod.mk.injEq] at this;omega
 have hself:d1l cc' ds.length=col:=funext fun k=>by
  cases e:col k with
  |some c=>exact c8K.2 (c1 e)
  |none =>
   cases e2:d1l cc' ds.length k with
   |none=>rfl
   |some c =>
    have e3:=c8K.1 e2;rw[c0 e] at e3;have:=h.nb k _ e3;simp at this
 have ST:Step anyS W.heap.size (d1J cc) (d1J cc') W W':=by
  refine⟨⟨[],Off.of_below hk,by simp⟩,fun k c e=>?_,fun k c e=>?_⟩
  ·have hl:k<W.heap.size:=Nat.lt_of_not_le fun hl=>by rw[d4S (h.lt k hl)] at e;cases e
   unfold d1J at e ⊢;rw[low k hl];exact e
  ·by_cases hl:k<W.heap.size
   ·unfold d1J at e ⊢;rw[low k hl] at e;exact .inl e
   ·exact .inr (Nat.le_of_not_lt hl)
 have pl:p<W'.heap.size:=(Array.getElem?_eq_some_iff.1 D.bd.pc).1;refine⟨p,dk,rfl,hp,pl,cc',fun j d hj=>?_,fun d hd=>?_,fun q hq=>(h.ks q hq).step ST,fun q hq=>(h.es q hq).step ST (Nat.le_refl _),fun q hq=>(h.rs q hq).step ST,fun k hk'=>?_,D.bd.env,h.bl.trans (hk.mono h.bl.size),fun k q hq=>?_⟩
 ·by_cases hl:j<ds.length
  ·rw[List.getElem?_append_left hl] at hj;obtain⟨r2,D2⟩:=h.dg j d hj;exact⟨r2,by rw[hoth j hl];exact D2.later hk⟩
  ·have hj2:j<(ds++[(p,dk,a3Z a b)]).length:=(List.getElem?_eq_some_iff.1 hj).1;rw[List.length_append] at hj2;have e:j=ds.length:=by simp at hj2;omega
   subst e;rw[List.getElem?_append_right (Nat.le_refl _)] at hj;simp only[Nat.sub_self,List.getElem?_cons_zero,Option.some.injEq] at hj;subst hj;refine⟨r,?_⟩;rw[hself];exact⟨D.bd,h.bl.trans (hk.mono h.bl.size),fun x hx=>D.lo x (Nat.lt_of_lt_of_le hx h.bl.size)⟩
 ·rcases List.mem_append.1 hd with hd|hd
  ·obtain⟨j,hj,ej⟩:=List.getElem_of_mem hd;obtain⟨r2,D2⟩:=h.dg j d (by rw[List.getElem?_eq_getElem hj,ej])
   rw[low d.1 (Array.getElem?_eq_some_iff.1 D2.bd.pc).1];exact h.pp d hd
  ·rw[List.mem_singleton.1 hd];rw[c0 D.bd.pn];exact h.lt p hp
 ·rw[c0 (D.none hk')];exact h.lt k (Nat.le_trans hk.size hk')
 ·rw[List.length_append]
  cases e:col k with
  |none=>rw[c0 e] at hq;have:=h.nb k q hq;simp;omega
  |some c =>
   rw[c1 e] at hq;simp only[Option.some.injEq] at hq;subst hq;simp
open Desk (Ent)
theorem b1y(L:List (Int × Int))(u v:Value)(w:World)(hu:SV w u L)(hv:SV w v L)(hl:L.length<=1000000):
  Calls Tryz.prog 31 #[u,v] w fun e w'=>e=.returned (.bool true)/\Below w.heap.size w w':=by
 obtain⟨a,ca,rfl⟩:=hu.form;obtain⟨b,cb,rfl⟩:=hv.form;have HU:=a0b hu;have HV:=a0b hv;clear hu hv;have hb:((L.length:Int) != (L.length:Int))=false:=by simp
 go_enter Tryz.func31,Tryz.ntmps31
 go_wp2_with fail
 go_loopw [5] (fun v wr=>∃ k:Nat,k<=L.length/\v=.int .i64 k/\Below w.heap.size w wr) (fun v _=>L.length-(intOf v).toNat)
 case atStart=>exact⟨0,Nat.zero_le _,rfl,Below.refl _ _⟩
 case round =>
  obtain⟨k,hk,rfl,hbl⟩:=hrel;have HB:=a0b hbl;clear hbl
  by_cases hlt:k<L.length
  ·have hlt':(k:Int)<(L.length:Int):=by omega
   obtain⟨g,cap,e,a0,a1⟩:=(HU.out.later HB.out).cell k hlt;simp only[Value.slice.injEq,true_and] at e;obtain⟨rfl,rfl⟩:=e;obtain⟨g2,cap2,e,b0,b1⟩:=(HV.out.later HB.out).cell k hlt;simp only[Value.slice.injEq,true_and] at e;obtain⟨rfl,rfl⟩:=e;generalize L[k].1=x at *;generalize L[k].2=y at *
   go_upto_region 6 with fail
   go_big_region
   have HBd:=a0b (HB.out.drew);clear HB
   go_wp2_with fail
   go_roundw
   case rel=>exact⟨k+1,by omega,by go_num,HBd.out⟩
   case measure=>simp[intOf];omega
  ·have hlt':¬ (k:Int)<(L.length:Int):=by omega
   go_wp2_with fail
   go_ret;exact⟨rfl,HB.out⟩
theorem a9Q(h:Below B w w')(n:Nat):Below B w (w'.drewN n):=⟨h.os,h.tape,h.output,h.size,h.block⟩
theorem a8V(l m:List (Ent × Value))(u v:Value)(w:World)(hu:EV w u l)(hv:EV w v m)(he:l.map (·.1)=m.map (·.1))(hl:l.length<=1000)(hs:∀ p∈l,p.1.a0e.length<=1000):
  Calls Tryz.prog 29 #[u,v] w fun e w'=>e=.returned (.bool true)/\Below w.heap.size w w':=by
 obtain⟨a,ca,rfl⟩:=hu.form;obtain⟨b,cb,rfl⟩:=hv.form;have hlen:m.length=l.length:=by have:=congrArg List.length he;simpa using this.symm
 have AT:Hid (∀ (k:Nat) (h:k<l.length) (h':k<m.length),m[k].1=l[k].1):=fun k h h'=>by
  have:=congrArg (fun x=>x[k]?) he
  simp only[List.getElem?_map,List.getElem?_eq_getElem h,List.getElem?_eq_getElem h',Option.map_some] at this;exact (Option.some.inj this).symm
 have HU:=a0b hu;have HV:=a0b hv;have HS:=a0b hs;rw[hlen];clear hu hv he hs;have hb:((l.length:Int) != (l.length:Int))=false:=by simp
 go_enter Tryz.func29,Tryz.ntmps29
 go_wp2_with fail
 go_loopw [5,6] (fun v _ wr=>∃ k:Nat,k<=l.length/\v=.int .i64 k/\Below w.heap.size w wr) (fun v _ _=>l.length-(intOf v).toNat)
 case atStart=>exact⟨0,Nat.zero_le _,rfl,Below.refl _ _⟩
 case round =>
  obtain⟨k,hk,rfl,hbl⟩:=hrel;have HB:=a0b hbl;clear hbl
  by_cases hlt:k<l.length
  ·have hlt':(k:Int)<(l.length:Int):=by omega
   have hmt:k<m.length:=by omega
   obtain⟨g,cap,e,a0,a1,a2,a3,a4,a5⟩:=(HU.out.later HB.out).cell k hlt;simp only[Value.slice.injEq,true_and] at e;obtain⟨rfl,rfl⟩:=e;obtain⟨g2,cap2,e,b0,b1,b2,b3,b4,b5⟩:=(HV.out.later HB.out).cell k hmt;simp only[Value.slice.injEq,true_and] at e;obtain⟨rfl,rfl⟩:=e;have s1:=(HU.out.later HB.out).sp l[k] (List.getElem_mem hlt);have s2:=(HV.out.later HB.out).sp m[k] (List.getElem_mem hmt);rw[AT.out k hlt hmt] at b0 b1 b2 b3 b5 s2;have SP:=a0b (fun W' (q:Below wr.heap.size wr W')=>b1y l[k].1.a0e l[k].2 m[k].2 W' (s1.later q) (s2.later q) (by have:=HS.out l[k] (List.getElem_mem hlt);omega))
   obtain⟨f1,f2,e1⟩:=s1.form;obtain⟨f3,f4,e2⟩:=s2.form;rw[e1] at a4 SP;rw[e2] at b4 SP;clear s1 s2 e1 e2;generalize l[k].1=x at *;have n0:(x.id != x.id)=false:=by simp
   have n1:(x.kind != x.kind)=false:=by simp
   have n3:(x.a0c != x.a0c)=false:=by simp
   have n5:(x.a0Z != x.a0Z)=false:=by simp
   have HBd:=a0b (HB.out.drew);have SS:Hid (∀ W',Below wr.drew.heap.size wr.drew W'->W'.cell? ⟨g,k*6,none⟩=some (.int .i64 x.id)/\W'.cell? ⟨g,k*6+1,none⟩=some (.int .i64 x.kind)/\W'.cell? ⟨g,k*6+2,none⟩=some (.string x.a0k)/\W'.cell? ⟨g,k*6+3,none⟩=some (.int .i64 x.a0c)/\W'.cell? ⟨g,k*6+4,none⟩=some (.slice f1 x.a0e.length f2)/\W'.cell? ⟨g,k*6+5,none⟩=some (.int .i64 x.a0Z)/\W'.cell? ⟨g2,k*6,none⟩=some (.int .i64 x.id)/\W'.cell? ⟨g2,k*6+1,none⟩=some (.int .i64 x.kind)/\W'.cell? ⟨g2,k*6+2,none⟩=some (.string x.a0k)/\W'.cell? ⟨g2,k*6+3,none⟩=some (.int .i64 x.a0c)/\W'.cell? ⟨g2,k*6+4,none⟩=some (.slice f3 x.a0e.length f4)/\W'.cell? ⟨g2,k*6+5,none⟩=some (.int .i64 x.a0Z)):=fun W' q=>⟨a0a q a0,a0a q a1,a0a q a2,a0a q a3,a0a q a4,a0a q a5,a0a q b0,a0a q b1,a0a q b2,a0a q b3,a0a q b4,a0a q b5⟩
   clear HB
   go_upto_region 6 with fail
   go_region_held3 (fun W'=>W'.cell? ⟨g,k*6,none⟩=some (.int .i64 x.id)/\W'.cell? ⟨g,k*6+1,none⟩=some (.int .i64 x.kind)/\W'.cell? ⟨g,k*6+2,none⟩=some (.string x.a0k)/\W'.cell? ⟨g,k*6+3,none⟩=some (.int .i64 x.a0c)/\W'.cell? ⟨g,k*6+4,none⟩=some (.slice f1 x.a0e.length f2)/\W'.cell? ⟨g,k*6+5,none⟩=some (.int .i64 x.a0Z)/\W'.cell? ⟨g2,k*6,none⟩=some (.int .i64 x.id)/\W'.cell? ⟨g2,k*6+1,none⟩=some (.int .i64 x.kind)/\W'.cell? ⟨g2,k*6+2,none⟩=some (.string x.a0k)/\W'.cell? ⟨g2,k*6+3,none⟩=some (.int .i64 x.a0c)/\W'.cell? ⟨g2,k*6+4,none⟩=some (.slice f3 x.a0e.length f4)/\W'.cell? ⟨g2,k*6+5,none⟩=some (.int .i64 x.a0Z))
    (first
     |with_reducible exact SS.out _ HB6.out
     |exact⟨a0,a1,a2,a3,a4,a5,b0,b1,b2,b3,b4,b5⟩)
    (first
     |(go_at_call 31;refine (SP.out _ (a0q _)).mono ?_;rintro e w6 ⟨rfl,hb6⟩;have HB6:=a0b hb6;clear hb6))
   have HF:Hid (Below w.heap.size w w6):=a0j HBd.out HB6.out (Nat.le_refl _);obtain⟨c0,c1,c2,c3,c4,c5,d0,d1,d2,d3,d4,d5⟩:=SS.out _ HB6.out;clear HB6 HBd SS SP a0 a1 a2 a3 a4 a5 b0 b1 b2 b3 b4 b5;have n2:(x.a0k.toList != x.a0k.toList)=false:=by simp
   have n2':(x.a0k.toList==x.a0k.toList)=true:=by simp
   go_upto_region 7 with fail
   go_quiet (fail)
   go_wp2_with fail
   go_roundw
   case rel=>exact⟨k+1,by omega,by go_num,a9Q HF.out _⟩
   case measure=>simp[intOf];omega
  ·have hlt':¬ (k:Int)<(l.length:Int):=by omega
   go_wp2_with fail
   go_ret;exact⟨rfl,HB.out⟩
open Desk (Ent St Inv a1q Rep)
theorem d9f:Reads (⟨#[119,97,105,116,105,110,103]⟩:ByteArray) (.iface 173 (.agg #[])):=by
 have hw:Txt.a1v (⟨#[119,97,105,116,105,110,103]⟩:ByteArray)=[a5q]:=by
  refine Txt.a5p ?_ ?_
  ·simp only[List.map_cons,List.map_nil,Txt.b3k];rfl
  ·intro x hx;rw[List.mem_singleton.1 hx]
   decide +kernel
 exact a5G (n:=1) hw (by decide) (a2H.waiting (b1P (x:=a5q) rfl)) rfl
theorem d5K{s:St}(h:Inv s):a1q s .waiting=(s,⟨0,0,0,s.es.filter (fun e=>e.kind==3),[],[],[]⟩):=by
 have e:Desk.a0g s .waiting=(s,⟨0,0,0,s.es.filter (fun e=>e.kind==3),[],[],[]⟩):=rfl
 rw[Desk.a8T h (by rw[e]),e]
theorem e4h:Reads (⟨#[99,108,111,99,107]⟩:ByteArray) (.iface 183 (.agg #[])):=by
 have hw:Txt.a1v (⟨#[99,108,111,99,107]⟩:ByteArray)=[b1c]:=by
  refine Txt.a5p ?_ ?_
  ·simp only[List.map_cons,List.map_nil,Txt.b3k];rfl
  ·intro x hx;rw[List.mem_singleton.1 hx]
   decide +kernel
 exact a5G (n:=1) hw (by decide) (a2H.clock (b1P (x:=b1c) rfl)) rfl
theorem e7G{s:St}(h:Inv s):a1q s .clock=(s,Rep.num s.now):=by
 have e:Desk.a0g s .clock=(s,Rep.num s.now):=rfl;rw[Desk.a8T h (by rw[e]),e]
end Go.Proofs.YtfigmlfdnickmaaGreatDoor
