import Derived.Test.YtfigmlfdnickmaaGreatDoorL18
set_option maxRecDepth 100000
set_option maxHeartbeats 8000000
variable{s x y z:ByteArray}{d fr k pc:Int}{ps xs:List ByteArray}{acc:List Int}{F g:Nat}{W w w0:Go.World}
namespace Go.Proofs.YtfigmlfdnickmaaGreatDoor
open Go.RowKit
def g2S(v:Int)(x:ByteArray):Prop:=(v=1/\x=⟨#[119,101,101,107,108,121,32]⟩)\/(v≠1/\(x=⟨#[100,97,105,108,121,32]⟩\/x=⟨#[109,111,110,116,104,108,121,32]⟩))
def PTx(x:ByteArray):Prop:=∃ ps,PaK ps/\x.data.toList=Txt.jb (ps.map (·.data.toList))
def YK(v:Int)(y:ByteArray):Prop:=(v=1->∃ k,1<=k/\k<=5/\y.data.toList=a8D.data.toList++32 :: (Txt.a0x k).data.toList)/\(v≠1->PTx y)
theorem g2i{v:Int}(h:g2S v x)(h0:1<=k)(h1:k<=5):YK v (x++Txt.a0x k):=by
 rcases h with ⟨e,rfl⟩|⟨e,rfl|rfl⟩
 ·exact⟨fun _=>⟨k,h0,h1,by rw[Txt.a1X];rfl⟩,fun h=>absurd e h⟩
 ·exact⟨fun h=>absurd h e,fun _=>⟨_,PaK.daily k h0 h1,by rw[Txt.a1X];simp only[List.map_cons,List.map_nil,Txt.a6Q,Txt.b3k];rfl⟩⟩
 ·exact⟨fun h=>absurd h e,fun _=>⟨_,PaK.monthly k h0 h1,by rw[Txt.a1X];simp only[List.map_cons,List.map_nil,Txt.a6Q,Txt.b3k];rfl⟩⟩
theorem f6y(h:YK 1 y)(hz:∃ o,o∈onK/\z.data.toList=32 :: o.data.toList):PTx (y++z):=by
 obtain⟨k,h0,h1,e⟩:=h.1 rfl;obtain⟨o,ho,ez⟩:=hz;refine⟨_,PaK.weekly k o h0 h1 ho,?_⟩;rw[Txt.a1X,e,ez];simp only[List.map_cons,List.map_nil,Txt.a6Q,Txt.b3k,List.append_assoc,List.cons_append]
def g2g(y:ByteArray):Prop:=∃ (ps:List ByteArray)(late:Bool)(d h m k:Int),PaK ps/\(0<=d/\d<=27)/\(0<=h/\h<=2)/\(1<=m/\m<=4)/\(1<=k/\k<=100)/\y.data.toList=Txt.jb ((ps++[a1t,d2Y late d,atW,e5x h m,b3z,Txt.a0x k]).map (·.data.toList))
theorem f8A(h:PaK ps):ps.map (·.data.toList)≠[]:=by
 cases h <;> simp
theorem g2w{dS:ByteArray}{late:Bool}{h m:Int}(hx:PTx x)(hd:b1O late++b8V (1+d)=dS)(d0:0<=d)(d1:d<=27)(h0:0<=h)(h1:h<=2)(m0:1<=m)(m1:m<=4)(k0:1<=k)(k1:k<=100):
  g2g ((((((((x++(⟨#[32,102,114,111,109,32]⟩:ByteArray))++dS)++(⟨#[32,97,116,32,48]⟩:ByteArray))++Txt.a0x h)++(⟨#[58]⟩:ByteArray))++Txt.a0x m)++(⟨#[48,32,102,111,114,32]⟩:ByteArray))++Txt.a0x k):=by
 obtain⟨ps,hp,e⟩:=hx;refine⟨ps,late,d,h,m,k,hp,⟨d0,d1⟩,⟨h0,h1⟩,⟨m0,m1⟩,⟨k0,k1⟩,?_⟩
 have e4:(e5x h m).data.toList=48 :: ((Txt.a0x h).data.toList++58 :: ((Txt.a0x m).data.toList++[48])):=by
  unfold e5x;simp only[Txt.a1X];simp only[List.append_assoc];rfl
 rw[List.map_append,d4E _ _ (f8A hp) (by simp),<- e,<- hd];simp only[Txt.a1X,List.map_cons,List.map_nil,Txt.a6Q,Txt.b3k,e4,List.append_assoc,List.cons_append,List.nil_append,d2Y];rfl
theorem f6i(h:g2g y){late:Bool}(d0:0<=d)(d1:d<=27):e3j ((y++(⟨#[32,117,110,116,105,108,32]⟩:ByteArray))++(b1O late++b8V (1+d))):=by
 obtain⟨ps,late',d',h,m,k,hp,a1,a2,a3,a4,e⟩:=h;refine⟨ps,_,late',d',h,m,k,hp,EnK.til late d d0 d1,a1,a2,a3,a4,?_⟩;have e1:(⟨#[32,117,110,116,105,108,32]⟩:ByteArray).data.toList=32 :: (b5O.data.toList++[32]):=by decide +kernel
 rw[List.map_append,d4E _ _ (by simp) (by simp),<- e,Txt.a1X,Txt.a1X,e1];simp only[List.map_cons,List.map_nil,Txt.a6Q,Txt.b3k,List.append_assoc,List.cons_append,List.nil_append,d2Y]
theorem f0B(h:g2g y){n:Int}(n0:1<=n)(n1:n<=6):e3j ((y++(⟨#[32,116,105,109,101,115,32]⟩:ByteArray))++Txt.a0x n):=by
 obtain⟨ps,late',d',h,m,k,hp,a1,a2,a3,a4,e⟩:=h;refine⟨ps,_,late',d',h,m,k,hp,EnK.times n n0 n1,a1,a2,a3,a4,?_⟩;have e1:(⟨#[32,116,105,109,101,115,32]⟩:ByteArray).data.toList=32 :: (b2z.data.toList++[32]):=by decide +kernel
 rw[List.map_append,d4E _ _ (by simp) (by simp),<- e,Txt.a1X,Txt.a1X,e1];simp only[List.map_cons,List.map_nil,Txt.a6Q,Txt.b3k,List.append_assoc,List.cons_append,List.nil_append]
theorem f1e(h:FW w0 F s w):
  Calls Tryz.prog 49 #[.pointer (some ⟨F,0,none⟩)] w fun e w'=>∃ t,e=.returned (.string t)/\e3j t/\FW w0 F s w':=by
 have HA:=a0b h;clear h
 go_enter Tryz.func49,Tryz.ntmps49
 go_upto_region 4 with (first
  |(go_at_call 26;refine (a1h HA.out 4 (by omega) (by omega)).mono ?_;rintro e w1 ⟨v1,rfl,a1,b1,ha1⟩;have HA1:=a0b ha1;clear ha1))
 replace HA:=HA1;clear HA1
 rename_i K8 h8 K5 h5
 have KK8:∀ (t8 t9 t10 t11 t12 t13 t14:Value) (x:ByteArray) (W:World),x.size<=8->g2S v1 x->FW w0 F s W->K8 { tmps:=#[.pointer (some ⟨F,0,none⟩),undef,.string ⟨#[]⟩,.string x,.int .i64 v1,undef,undef,undef,t8,t9,t10,t11,t12,t13,t14,undef,undef,undef,undef,undef,undef,undef,undef,undef,undef,undef,undef,undef,undef,undef,undef,undef,undef,undef,undef,undef,undef,undef,undef,undef,undef,undef,undef,undef,undef,undef,undef,undef,undef,undef,undef,undef,undef,undef,undef,undef,undef,undef,undef,undef,undef,undef,undef,undef,undef,undef,undef,undef,undef,undef,undef,undef,undef,undef,undef,undef,undef,undef,undef,undef],defers:=[] } W:=by
  intro t8 t9 t10 t11 t12 t13 t14 x W hz8 hx hW;refine h8 _ _ ?_;clear h8 h5 HA;have HA:=a0b hW;have HX:=a0b hx;clear hW hx
  go_upto_region 9 with (first
   |(go_at_call 26;refine (a1h HA.out 5 (by omega) (by omega)).mono ?_;rintro e w2 ⟨v2,rfl,a2,b2,ha⟩;replace HA:=a0b ha;clear ha;have k2:IntKind.i64.wrap (1+v2)=1+v2:=a0G (by omega) (by omega))
   |(go_at_call 22;refine (a3L HA.out (1+v2) (by omega) (by omega)).mono ?_;rintro e w3 ⟨rfl,ha⟩;replace HA:=a0b ha;clear ha;have z2:=Txt.a0I (1+v2) (by omega) (by omega)))
  have zx:(x++Txt.a0x (1+v2)).size<=15:=by rw[ByteArray.size_append];omega
  have HY:Hid (YK v1 (x++Txt.a0x (1+v2))):=g2i HX.out (by omega) (by omega);generalize x++Txt.a0x (1+v2)=y at HY zx ⊢;generalize Txt.a0x (1+v2)=y2;clear k2 HX z2 hz8
  rename_i K12 h12 K9 h9
  have KK12:∀ (t5 t8 t9 t10 t11 t12 t13 t14 t15 t16 t17 t18 t19 t20 t21 t22 t23 t24 t25 t26 t27 t28 t29 t30:Value) (x:ByteArray) (W:World),x.size<=24->PTx x->FW w0 F s W->K12 { tmps:=#[.pointer (some ⟨F,0,none⟩),undef,.string ⟨#[]⟩,.string x,.int .i64 v1,t5,undef,undef,t8,t9,t10,t11,t12,t13,t14,t15,t16,t17,t18,t19,t20,t21,t22,t23,t24,t25,t26,t27,t28,t29,t30,undef,undef,undef,undef,undef,undef,undef,undef,undef,undef,undef,undef,undef,undef,undef,undef,undef,undef,undef,undef,undef,undef,undef,undef,undef,undef,undef,undef,undef,undef,undef,undef,undef,undef,undef,undef,undef,undef,undef,undef,undef,undef,undef,undef,undef,undef,undef,undef,undef],defers:=[] } W:=by
   intro t5 t8 t9 t10 t11 t12 t13 t14 t15 t16 t17 t18 t19 t20 t21 t22 t23 t24 t25 t26 t27 t28 t29 t30 x W hz24 hx hW;refine h12 _ _ ?_;clear h12 h9 HA;have HA:=a0b hW;have HX:=a0b hx;clear hW hx HY zx
   go_upto_region 13 with (first
    |(go_at_call 26;refine (a1h HA.out 6 (by omega) (by omega)).mono ?_;rintro e w4 ⟨v4,rfl,a4,b4,ha⟩;replace HA:=a0b ha;clear ha))
   go_upto_region 14 with (first
    |(go_at_call 26;refine (a1h HA.out 28 (by omega) (by omega)).mono ?_;rintro e w5 ⟨v5,rfl,a5,b5,ha⟩;replace HA:=a0b ha;clear ha))
   generalize (v4==1)=late;have DT:=a0b (fun W (hW:FW w0 F s W)=>b3j hW v5 late (by omega) (by omega))
   have zl:(b1O late++b8V (1+v5)).size<=15:=by
    have:=b2V (n:=1+v5) (by omega) (by omega);have:(b1O late).size=8:=by cases late <;> rfl
    rw[ByteArray.size_append];omega
   have DT2:=a0b (fun W n (hn:0<=n/\n<=60) (hW:FW w0 F s W)=>b3j hW n late (by omega) (by omega));generalize hD:b1O late++b8V (1+v5)=dS at DT zl;have HD:=a0b hD;clear hD
   go_upto_region 15 with (first
    |(go_at_call 68;refine (DT.out _ HA.out).mono ?_;rintro e w6 ⟨rfl,ha⟩;replace HA:=a0b ha;clear ha DT)
    |(go_at_call 26;refine (a1h HA.out _ (by first|exact (by decide:(1:Int)<=3)|exact (by decide:(1:Int)<=4)|exact (by decide:(1:Int)<=100)) (by first|exact (by decide:(3:Int)<=1000)|exact (by decide:(4:Int)<=1000)|exact (by decide:(100:Int)<=1000))).mono ?_;rintro e w7 ⟨v7,rfl,a7,b7,ha⟩;replace HA:=a0b ha;clear ha;have k7:IntKind.i64.wrap (1+v7)=1+v7:=a0G (by omega) (by omega);have z7:=Txt.a0I v7 (by omega) (by omega);have z8:=Txt.a0I (1+v7) (by omega) (by omega))
    |(go_at_call 22;refine (a3L HA.out _ (by omega) (by omega)).mono ?_;rintro e w8 ⟨rfl,ha⟩;replace HA:=a0b ha;clear ha))
   rename_i wa va a7a b7a k7a z7a z8a wb wc vc a7c b7c k7c z7c z8c wd K17 h17 K16 h16
   have zz:((((((((x++(⟨#[32,102,114,111,109,32]⟩:ByteArray))++dS)++(⟨#[32,97,116,32,48]⟩:ByteArray))++Txt.a0x va)++(⟨#[58]⟩:ByteArray))++Txt.a0x (1+vc))++(⟨#[48,32,102,111,114,32]⟩:ByteArray))++Txt.a0x (1+v7)).size<=90:=by
    simp only[ByteArray.size_append];show x.size+6+dS.size+5+_+1+_+6+_<=90;omega
   have HM:Hid (g2g ((((((((x++(⟨#[32,102,114,111,109,32]⟩:ByteArray))++dS)++(⟨#[32,97,116,32,48]⟩:ByteArray))++Txt.a0x va)++(⟨#[58]⟩:ByteArray))++Txt.a0x (1+vc))++(⟨#[48,32,102,111,114,32]⟩:ByteArray))++Txt.a0x (1+v7))):=g2w HX.out HD.out (by omega) (by omega) (by omega) (by omega) (by omega) (by omega) (by omega) (by omega);generalize (((((((x++(⟨#[32,102,114,111,109,32]⟩:ByteArray))++dS)++(⟨#[32,97,116,32,48]⟩:ByteArray))++Txt.a0x va)++(⟨#[58]⟩:ByteArray))++Txt.a0x (1+vc))++(⟨#[48,32,102,111,114,32]⟩:ByteArray))++Txt.a0x (1+v7)=y at HM zz ⊢;clear k7a z7a z8a k7c z7c z8c k7 z7 z8 zl HX HD;have k5:IntKind.i64.wrap (28-v5)=28-v5:=a0G (by omega) (by omega);have H17:=a0b h17;clear h17
   go_upto_region 16 with (first
    |(go_at_call 26;refine (a1h HA.out 2 (by omega) (by omega)).mono ?_;rintro e w9 ⟨v8,rfl,a8,b8,ha⟩;replace HA:=a0b ha;clear ha))
   ·clear H17
    go_wp2_with (first
     |(go_at_call 26;refine (a1h HA.out (28-v5) (by omega) (by omega)).mono ?_;rintro e w9 ⟨v9,rfl,a9,b9,ha⟩;replace HA:=a0b ha;clear ha;have k9:IntKind.i64.wrap (v5+v9)=v5+v9:=a0G (by omega) (by omega))
     |(go_at_call 68;refine (DT2.out _ (v5+v9) (by omega) HA.out).mono ?_;rintro e w10 ⟨rfl,ha⟩;replace HA:=a0b ha;clear ha;have zl:(b1O late++b8V (1+(v5+v9))).size<=15:=(by
       have:=b2V (n:=1+(v5+v9)) (by omega) (by omega);have:(b1O late).size=8:=by cases late <;> rfl
       rw[ByteArray.size_append];omega);generalize hD2:b1O late++b8V (1+(v5+v9))=dS2 at zl ⊢;have HD2:=a0b hD2;clear hD2))
    go_ret;exact⟨_,rfl,by rw[<- HD2.out];exact f6i HM.out (by omega) (by omega),HA.out⟩
   ·refine H17.out _ _ ?_;clear H17
    go_wp2_with (first
     |(go_at_call 26;refine (a1h HA.out 6 (by omega) (by omega)).mono ?_;rintro e w9 ⟨v9,rfl,a9,b9,ha⟩;replace HA:=a0b ha;clear ha;have k9:IntKind.i64.wrap (1+v9)=1+v9:=a0G (by omega) (by omega);have z9:=Txt.a0I (1+v9) (by omega) (by omega))
     |(go_at_call 22;refine (a3L HA.out _ (by omega) (by omega)).mono ?_;rintro e w8 ⟨rfl,ha⟩;replace HA:=a0b ha;clear ha))
    go_ret;exact⟨_,rfl,f0B HM.out (by omega) (by omega),HA.out⟩
  clear h12
  by_cases hv1:v1=1
  ·subst hv1
   go_upto_region 11 with fail
   have HZ:=a0b (HA.out.alloc (.cells #[.string ⟨#[32,109,111]⟩,.string ⟨#[32,116,117,44,119,101]⟩,.string ⟨#[32,115,117,44,102,114,44,109,111]⟩] 9))
   have hcl:∀ n:Nat,n<3->∃ z:ByteArray,z.size<=9/\(∃ o,o∈onK/\z.data.toList=32 :: o.data.toList)/\(w3.alloc (.cells #[.string ⟨#[32,109,111]⟩,.string ⟨#[32,116,117,44,119,101]⟩,.string ⟨#[32,115,117,44,102,114,44,109,111]⟩] 9)).cell? ⟨w3.heap.size,n,none⟩=some (.string z):=fun n hn=>by
    have hb:=a0p w3 (.cells #[.string ⟨#[32,109,111]⟩,.string ⟨#[32,116,117,44,119,101]⟩,.string ⟨#[32,115,117,44,102,114,44,109,111]⟩] 9)
    match n,hn with
    |0,_=>exact⟨⟨#[32,109,111]⟩,by decide,⟨⟨#[109,111]⟩,by simp[onK],rfl⟩,by simp only[World.cell?,hb];rfl⟩
    |1,_=>exact⟨⟨#[32,116,117,44,119,101]⟩,by decide,⟨⟨#[116,117,44,119,101]⟩,by simp[onK],rfl⟩,by simp only[World.cell?,hb];rfl⟩
    |2,_=>exact⟨⟨#[32,115,117,44,102,114,44,109,111]⟩,by decide,⟨⟨#[115,117,44,102,114,44,109,111]⟩,by simp[onK],rfl⟩,by simp only[World.cell?,hb];rfl⟩
    |n+3,hn=>omega
   have HC:=a0b hcl;clear hcl;have hne:w3.heap.size≠F:=by have:=HA.out.lt;omega
   have HNE:=a0b hne;clear hne;generalize w3.alloc (.cells #[.string ⟨#[32,109,111]⟩,.string ⟨#[32,116,117,44,119,101]⟩,.string ⟨#[32,115,117,44,102,114,44,109,111]⟩] 9)=Z at HZ HC ⊢
   have NZ:Hid (Calls Tryz.prog 26 #[.pointer (some ⟨F,0,none⟩),.int .i64 3] Z fun e w'=>∃ (n:Nat) (z:ByteArray),e=.returned (.int .i64 (n:Int))/\(n:Int)<3/\z.size<=9/\(∃ o,o∈onK/\z.data.toList=32 :: o.data.toList)/\w'.cell? ⟨w3.heap.size,n,none⟩=some (.string z)/\FW w0 F s w'):=by
    refine (a1h (w0:=Z) (w:=Z) (F:=F) (s:=s) ⟨HZ.out.fd,HZ.out.env,Off.refl _ _,HZ.out.ten⟩ 3 (by omega) (by omega)).mono ?_;rintro e w' ⟨v,rfl,v0,v1,k⟩;obtain⟨n,rfl⟩:=Int.eq_ofNat_of_zero_le v0;obtain⟨z,hz,hzo,hc⟩:=HC.out n (by omega);exact⟨n,z,rfl,v1,hz,hzo,k.off.cell (by simp;exact HNE.out) hc,k.fd,k.env,HZ.out.off.trans k.off,k.ten⟩
   clear HC HNE HZ HA
   go_wp2_with (first
    |(go_at_call 26;refine NZ.out.mono ?_;rintro e w4 ⟨n4,z4,rfl,n3,hz9,hz4,hc4,ha4⟩;have HA:=a0b ha4;have HZ4:=a0b hz4;clear ha4 hz4))
   exact KK12 _ _ _ _ _ _ _ _ _ _ _ _ _ _ _ _ _ _ _ _ _ _ _ _ _ _ (by rw[ByteArray.size_append];omega) (f6y HY.out HZ4.out) HA.out
  ·have hb:(v1==1)=false:=by simpa using hv1
   have HV1:=a0b hv1
   go_wp2_with fail
   exact KK12 _ _ _ _ _ _ _ _ _ _ _ _ _ _ _ _ _ _ _ _ _ _ _ _ _ _ (by omega) (HY.out.2 HV1.out) HA.out
 clear h8
 by_cases hv1:v1=1
 ·have hb:(v1==1)=true:=by simpa using hv1
  have HV1:=a0b hv1;clear hv1
  go_wp2_with fail
  exact KK8 _ _ _ _ _ _ _ ⟨#[119,101,101,107,108,121,32]⟩ _ (by decide) (.inl ⟨HV1.out,rfl⟩) HA.out
 ·have hb:(v1==1)=false:=by simpa using hv1
  by_cases hv2:v1=2
  ·have hb2:(v1==2)=true:=by simpa using hv2
   have HV1:=a0b hv1;clear hv1 hv2
   go_wp2_with fail
   exact KK8 _ _ _ _ _ _ _ ⟨#[109,111,110,116,104,108,121,32]⟩ _ (by decide) (.inr ⟨HV1.out,.inr rfl⟩) HA.out
  ·have hb2:(v1==2)=false:=by simpa using hv2
   have HV1:=a0b hv1
   go_wp2_with fail
   exact KK8 _ _ _ _ _ _ _ ⟨#[100,97,105,108,121,32]⟩ _ (by decide) (.inr ⟨HV1.out,.inl rfl⟩) HA.out
def g0A(z:ByteArray):Prop:=z=⟨#[97,32,49,32]⟩\/z=⟨#[98,32,50,32]⟩
theorem d8S(h:g0A z):z.size<=4:=by
 rcases h with rfl|rfl <;> decide
theorem e0M{r:ByteArray}(h:e3j r):r.size<=120:=by
 obtain⟨ps,es,late,d,h,m,k,hp,he,⟨d0,d1⟩,⟨h0,h1⟩,⟨m0,m1⟩,⟨k0,k1⟩,ht⟩:=h;obtain⟨qs,pc,ev,acc,acc',P⟩:=hp.use;obtain⟨ti,un,E⟩:=he.use;have dc:=(e3a late d0 d1).2.2;have mc:=(f3w h0 h1 m0 m1).2.2;have kz:=(d3I (k:=k) (by omega) k1).1
 have es_n:es.map (·.data.toList)≠[]:=by
  intro e;rw[List.map_eq_nil_iff] at e;have:=E.n;rw[e] at this;simp at this
 have:=P.sp;have:=E.sz;have:a1t.size=4:=rfl;have:atW.size=2:=rfl;have:b3z.size=3:=rfl;rw[<- Txt.a1l,ht,List.map_append,List.map_append,d4E _ _ (by simp) es_n,d4E _ _ (f8A hp) (by simp)];simp only[List.map_cons,List.map_nil,Txt.a6Q,Txt.b3k,List.length_append,List.length_cons,Txt.a1l];omega
structure f5j(g F:Nat)(W:World):Prop where
 ne:g≠F
 c:∀ n:Nat,n<2->∃ z:ByteArray,g0A z/\W.cell? ⟨g,n,none⟩=some (.string z)
theorem f5j.off{W':World}(h:f5j g F W)(k:Off [F] W W'):f5j g F W':=⟨h.ne,fun n hn=>by
 obtain⟨z,hz,hc⟩:=h.c n hn
 exact⟨z,hz,k.cell (by simp;exact h.ne) hc⟩⟩
theorem f5j.alloc(h:f5j g F W)(o:Obj):f5j g F (W.alloc o):=h.off (Off.of_below ((zr _ _).alloc (zq _) _))
theorem f5j.new(h:FW w0 F s W):f5j W.heap.size F (W.alloc (.cells #[.string ⟨#[97,32,49,32]⟩,.string ⟨#[98,32,50,32]⟩] 9)):=⟨by have:=h.lt;omega,fun n hn=>by
 have hb:=a0p W (.cells #[.string ⟨#[97,32,49,32]⟩,.string ⟨#[98,32,50,32]⟩] 9)
 match n,hn with
 |0,_=>exact⟨⟨#[97,32,49,32]⟩,.inl rfl,by simp only[World.cell?,hb];rfl⟩
 |1,_=>exact⟨⟨#[98,32,50,32]⟩,.inr rfl,by simp only[World.cell?,hb];rfl⟩
 |n+2,hn=>omega⟩
structure g2K(w0:World)(F:Nat)(s:ByteArray)(L:Nat->Bool)(u2 u56 u57 u58 u59 u60 u61 u62 u63 u64:Value)(W:World):Prop where
 fw:FW w0 F s W
 f0:L 0=true->∃ g,u56=.slice (some ⟨g,0,none⟩) 2 2/\f5j g F W
 f1:L 1=true->u57=.pointer (some ⟨F,0,none⟩)
 f2:L 2=true->∃ n:Nat,n<2/\u58=.int .i64 (n:Int)
 f3:L 3=true->∃ (g n:Nat),n<2/\u59=.pointer (some ⟨g,n,none⟩)/\f5j g F W
 f4:L 4=true->∃ z:ByteArray,g0A z/\u60=.string z
 f5:L 5=true->∃ z:ByteArray,g0A z/\u61=.string ((⟨#[115,101,114,105,101,115,32]⟩:ByteArray)++z)
 f6:L 6=true->u62=.pointer (some ⟨F,0,none⟩)
 f7:L 7=true->∃ t:ByteArray,e3j t/\u63=.string t
 f8:L 8=true->∃ (z t:ByteArray),g0A z/\e3j t/\u64=.string (((⟨#[115,101,114,105,101,115,32]⟩:ByteArray)++z)++t)
 f9:L 9=true->∃ (z t:ByteArray),g0A z/\e3j t/\u2=.string (((⟨#[115,101,114,105,101,115,32]⟩:ByteArray)++z)++t)
theorem f9N{t3 t4 t5 t6 t7 t8 t9 t10 t11 t12 t13 t14 t15 t16 t17 t18 t19 t20 t21 t22 t23 t24 t25 t26 t27 t28 t29 t30 t31 t32 t33 t34 t35 t36 t37 t38 t39 t40 t41 t42 t43 t44 t45 t46 t47 t48 t49 t50 t51 t52 t53 t54 t55:Value}{Q:Exit->Act->World->Prop}{Y:World}(hY:FW w0 F s Y)(KK:∀ (u56 u57 u58 u59 u60 u61 u62 u63 u64:Value)(z t:ByteArray)(W:World),g0A z->e3j t->FW w0 F s W->Q .normal { tmps:=#[.pointer (some ⟨F,0,none⟩),undef,(.string (((⟨#[115,101,114,105,101,115,32]⟩:ByteArray)++z)++t)),t3,t4,t5,t6,t7,t8,t9,t10,t11,t12,t13,t14,t15,t16,t17,t18,t19,t20,t21,t22,t23,t24,t25,t26,t27,t28,t29,t30,t31,t32,t33,t34,t35,t36,t37,t38,t39,t40,t41,t42,t43,t44,t45,t46,t47,t48,t49,t50,t51,t52,t53,t54,t55,u56,u57,u58,u59,u60,u61,u62,u63,u64,undef,undef,undef,undef,undef],defers:=[] } W):
  (Code.region 18 c3W true).wp Tryz.prog Q { tmps:=#[.pointer (some ⟨F,0,none⟩),undef,.string ⟨#[]⟩,t3,t4,t5,t6,t7,t8,t9,t10,t11,t12,t13,t14,t15,t16,t17,t18,t19,t20,t21,t22,t23,t24,t25,t26,t27,t28,t29,t30,t31,t32,t33,t34,t35,t36,t37,t38,t39,t40,t41,t42,t43,t44,t45,t46,t47,t48,t49,t50,t51,t52,t53,t54,t55,undef,undef,undef,undef,undef,undef,undef,undef,undef,undef,undef,undef,undef,undef],defers:=[] } Y:=by
 refine a6t (by kernel_rfl) ?ord (fun L a W=>∃ u2 u56 u57 u58 u59 u60 u61 u62 u63 u64:Value,a={ tmps:=#[.pointer (some ⟨F,0,none⟩),undef,u2,t3,t4,t5,t6,t7,t8,t9,t10,t11,t12,t13,t14,t15,t16,t17,t18,t19,t20,t21,t22,t23,t24,t25,t26,t27,t28,t29,t30,t31,t32,t33,t34,t35,t36,t37,t38,t39,t40,t41,t42,t43,t44,t45,t46,t47,t48,t49,t50,t51,t52,t53,t54,t55,u56,u57,u58,u59,u60,u61,u62,u63,u64,undef,undef,undef,undef,undef],defers:=[] }/\g2K w0 F s L u2 u56 u57 u58 u59 u60 u61 u62 u63 u64 W) ?start ?step ?done
 case ord =>
  have hall:((List.range 10).all fun j=>match c3W[j]? with|some o=>(o.after.all fun e=>!Region.binds .any e || decide (e.on<j))|none=>true)=true:=by decide +kernel
  intro j o ho;have hj:j<10:=(Array.getElem?_eq_some_iff.1 ho).1;have:=List.all_eq_true.1 hall j (List.mem_range.2 hj);rw[ho] at this;exact this
 case start =>
  exact⟨_,_,_,_,_,_,_,_,_,_,rfl,⟨hY.drew,fun e=>(nomatch e),fun e=>(nomatch e),fun e=>(nomatch e),fun e=>(nomatch e),fun e=>(nomatch e),fun e=>(nomatch e),fun e=>(nomatch e),fun e=>(nomatch e),fun e=>(nomatch e),fun e=>(nomatch e)⟩⟩
 case done =>
  rintro L a W hall ⟨u2,u56,u57,u58,u59,u60,u61,u62,u63,u64,rfl,h⟩;obtain⟨z,t,hz,ht,rfl⟩:=h.f9 (hall 9 (by decide));exact KK u56 u57 u58 u59 u60 u61 u62 u63 u64 z t W hz ht h.fw
 case step =>
  rintro L a W j o hcl ⟨u2,u56,u57,u58,u59,u60,u61,u62,u63,u64,rfl,h⟩ ho hL hd K hK;have hj:j<10:=(Array.getElem?_eq_some_iff.1 ho).1
  match j,hj,ho,hL,hd,hK with
  |0,_,ho,hL,hd,hK =>
   obtain rfl:c0h=o:=Option.some.inj ho;clear hd hcl;unfold c0h
   go_simp
   exact hK _ _ ⟨_,_,_,_,_,_,_,_,_,_,rfl,⟨h.fw.alloc _,fun _=>⟨W.heap.size,rfl,f5j.new h.fw⟩,h.f1,h.f2,fun e=>(h.f3 e).imp fun g hg=>hg.imp fun n hn=>⟨hn.1,hn.2.1,hn.2.2.alloc _⟩,h.f4,h.f5,h.f6,h.f7,h.f8,h.f9⟩⟩
  |1,_,ho,hL,hd,hK =>
   obtain rfl:c0g=o:=Option.some.inj ho;clear hd hcl;unfold c0g
   go_simp
   exact hK _ _ ⟨_,_,_,_,_,_,_,_,_,_,rfl,⟨h.fw,h.f0,fun _=>rfl,h.f2,h.f3,h.f4,h.f5,h.f6,h.f7,h.f8,h.f9⟩⟩
  |2,_,ho,hL,hd,hK =>
   obtain rfl:b6x=o:=Option.some.inj ho;have dd_:L 1=true:=by simpa[Region.binds,b6x] using hd
   have d1:=dd_;clear dd_;clear hd hcl;unfold b6x;obtain rfl:=h.f1 d1;refine a2k (by rfl) 26 _ _ (by rfl) _ (by simp[Act.eval]) (c5s _ _) (a1h h.fw.self 2 (by omega) (by omega)) ?_;rintro e w7 ⟨v,rfl,v0,v1,k7⟩;refine⟨_,rfl,?_⟩;have ho7:=k7.off;obtain⟨n,rfl⟩:=Int.eq_ofNat_of_zero_le v0;exact hK _ _ ⟨_,_,_,_,_,_,_,_,_,_,rfl,⟨h.fw.back k7,fun e=>(h.f0 e).imp fun g hg=>⟨hg.1,hg.2.off ho7⟩,fun _=>rfl,fun _=>⟨n,by omega,rfl⟩,fun e=>(h.f3 e).imp fun g hg=>hg.imp fun n hn=>⟨hn.1,hn.2.1,hn.2.2.off ho7⟩,h.f4,h.f5,h.f6,h.f7,h.f8,h.f9⟩⟩
  |3,_,ho,hL,hd,hK =>
   obtain rfl:b6w=o:=Option.some.inj ho;have dd_:L 0=true/\L 2=true:=by simpa[Region.binds,b6w] using hd
   have d0:=dd_.1;have d2:=dd_.2;clear dd_;clear hd hcl;unfold b6w;obtain⟨g,rfl,hg⟩:=h.f0 d0;obtain⟨n,hn,rfl⟩:=h.f2 d2;have hn':(n:Int)<2:=by omega
   go_simp
   exact hK _ _ ⟨_,_,_,_,_,_,_,_,_,_,rfl,⟨h.fw,fun _=>⟨g,rfl,hg⟩,h.f1,fun _=>⟨n,hn,rfl⟩,fun _=>⟨g,n,hn,rfl,hg⟩,h.f4,h.f5,h.f6,h.f7,h.f8,h.f9⟩⟩
  |4,_,ho,hL,hd,hK =>
   obtain rfl:b6v=o:=Option.some.inj ho;have dd_:L 3=true:=by simpa[Region.binds,b6v] using hd
   have d3:=dd_;clear dd_;clear hd hcl;unfold b6v;obtain⟨g,n,hn,rfl,hg⟩:=h.f3 d3;obtain⟨z,hz,hc⟩:=hg.c n hn
   go_simp
   exact hK _ _ ⟨_,_,_,_,_,_,_,_,_,_,rfl,⟨h.fw,h.f0,h.f1,h.f2,fun _=>⟨g,n,hn,rfl,hg⟩,fun _=>⟨z,hz,rfl⟩,h.f5,h.f6,h.f7,h.f8,h.f9⟩⟩
  |5,_,ho,hL,hd,hK =>
   obtain rfl:b6u=o:=Option.some.inj ho;have dd_:L 4=true:=by simpa[Region.binds,b6u] using hd
   have d4:=dd_;clear dd_;clear hd hcl;unfold b6u;obtain⟨z,hz,rfl⟩:=h.f4 d4;have hz4:=d8S hz;have sz:¬ (9223372036854775807<7+z.size):=by omega
   go_simp
   exact hK _ _ ⟨_,_,_,_,_,_,_,_,_,_,rfl,⟨h.fw,h.f0,h.f1,h.f2,h.f3,fun _=>⟨z,hz,rfl⟩,fun _=>⟨z,hz,rfl⟩,h.f6,h.f7,h.f8,h.f9⟩⟩
  |6,_,ho,hL,hd,hK =>
   obtain rfl:c0f=o:=Option.some.inj ho;clear hd hcl;unfold c0f
   go_simp
   exact hK _ _ ⟨_,_,_,_,_,_,_,_,_,_,rfl,⟨h.fw,h.f0,h.f1,h.f2,h.f3,h.f4,h.f5,fun _=>rfl,h.f7,h.f8,h.f9⟩⟩
  |7,_,ho,hL,hd,hK =>
   obtain rfl:b6t=o:=Option.some.inj ho;have dd_:L 6=true/\L 2=true:=by simpa[Region.binds,b6t] using hd
   have d6:=dd_.1;clear dd_;clear hd hcl;unfold b6t;obtain rfl:=h.f6 d6;refine a2k (by rfl) 49 _ _ (by rfl) _ (by simp[Act.eval]) (c5q _ _) (f1e h.fw.self) ?_;rintro e w7 ⟨t,rfl,ht,k7⟩;refine⟨_,rfl,?_⟩;have ho7:=k7.off;exact hK _ _ ⟨_,_,_,_,_,_,_,_,_,_,rfl,⟨h.fw.back k7,fun e=>(h.f0 e).imp fun g hg=>⟨hg.1,hg.2.off ho7⟩,h.f1,h.f2,fun e=>(h.f3 e).imp fun g hg=>hg.imp fun n hn=>⟨hn.1,hn.2.1,hn.2.2.off ho7⟩,h.f4,h.f5,fun _=>rfl,fun _=>⟨t,ht,rfl⟩,h.f8,h.f9⟩⟩
  |8,_,ho,hL,hd,hK =>
   obtain rfl:b6s=o:=Option.some.inj ho;have dd_:L 5=true/\L 7=true:=by simpa[Region.binds,b6s] using hd
   have d5:=dd_.1;have d7:=dd_.2;clear dd_;clear hd hcl;unfold b6s;obtain⟨z,hz,rfl⟩:=h.f5 d5;have hz4:=d8S hz;obtain⟨t,ht,rfl⟩:=h.f7 d7;have ht4:=e0M ht;have sz:¬ (9223372036854775807<7+z.size+t.size):=by omega
   go_simp
   exact hK _ _ ⟨_,_,_,_,_,_,_,_,_,_,rfl,⟨h.fw,h.f0,h.f1,h.f2,h.f3,h.f4,fun _=>⟨z,hz,rfl⟩,h.f6,fun _=>⟨t,ht,rfl⟩,fun _=>⟨z,t,hz,ht,rfl⟩,h.f9⟩⟩
  |9,_,ho,hL,hd,hK =>
   obtain rfl:b6r=o:=Option.some.inj ho
   have dd_:L 0=true/\L 1=true/\L 2=true/\L 3=true/\L 4=true/\L 5=true/\L 6=true/\L 7=true/\L 8=true:=by
    simp[Region.binds,b6r] at hd;simp[hd]
   have d8:=dd_.2.2.2.2.2.2.2.2;clear dd_;clear hd hcl;unfold b6r;obtain⟨z,t,hz,ht,rfl⟩:=h.f8 d8
   go_simp
   exact hK _ _ ⟨_,_,_,_,_,_,_,_,_,_,rfl,⟨h.fw,h.f0,h.f1,h.f2,h.f3,h.f4,h.f5,h.f6,h.f7,fun _=>⟨z,t,hz,ht,rfl⟩,fun _=>⟨z,t,hz,ht,rfl⟩⟩⟩
  |n+10,hj,_,_,_,_=>exact absurd hj (by omega)
theorem d7x(h:FW w0 F s w){nm:ByteArray}{u til:Int}(ha:b8U nm u fr til):
  Calls Tryz.prog 28 #[.agg #[.string nm,.int .i64 u,.int .i64 fr,.int .i64 til]] w fun e w'=>∃ x,e=.returned (.string x)/\x=c5B nm u fr til/\x.size<=40/\FW w0 F s w':=by
 have b:=ha.u1;have c:=ha.u3;have d:=ha.f0;have e:=ha.f1;have f:=ha.t0;have g:=ha.t1;refine (b5S w h.env nm u fr til ha.size ⟨by omega,by omega⟩ ⟨by omega,by omega⟩ ⟨by omega,by omega⟩).mono ?_;rintro e w' ⟨rfl,k⟩;exact⟨_,rfl,rfl,b3U ha.size ⟨by omega,by omega⟩ ⟨by omega,by omega⟩ ⟨by omega,by omega⟩,h.later k⟩
theorem f1f(h:FW w0 F s w):
  Calls Tryz.prog 32 #[.pointer (some ⟨F,0,none⟩)] w fun e w'=>∃ t,e=.returned (.string t)/\Made t/\FW w0 F s w':=by
 have HA:=a0b h;clear h
 go_enter Tryz.func32,Tryz.ntmps32
 go_upto_region 2 with (first
  |(go_at_call 26;refine (a1h HA.out 12 (by omega) (by omega)).mono ?_;rintro e w1 ⟨v1,rfl,a1,b1,ha1⟩;replace HA:=a0b ha1;clear ha1))
 have hv:v1=0\/v1=1\/v1=2\/v1=3\/v1=4\/v1=5\/v1=6\/v1=7\/v1=8\/v1=9\/v1=11\/v1=10:=by omega
 clear a1 b1;rcases hv with rfl|rfl|rfl|rfl|rfl|rfl|rfl|rfl|rfl|rfl|rfl|rfl
 iterate 3
  ·go_wp2_with (first
    |(go_at_call 25;refine (a7L HA.out).mono ?_;rintro e w2 ⟨nm,u,fr,til,rfl,hok,ha⟩;replace HA:=a0b ha;have HK:=a0b hok;clear ha hok)
    |(go_at_call 28;refine (d7x HA.out HK.out).mono ?_;rintro e w3 ⟨tx,rfl,htx,ht,ha⟩;replace HA:=a0b ha;have HTX:=a0b htx;clear ha htx))
   go_ret;exact⟨_,rfl,by rw[HTX.out];exact f3E HK.out,HA.out⟩
 iterate 2
  ·go_wp2_with (first
    |(go_at_call 25;refine (a7L HA.out).mono ?_;rintro e w2 ⟨nm,u,fr,til,rfl,hok,ha⟩;replace HA:=a0b ha;have HK:=a0b hok;clear ha hok)
    |(go_at_call 28;refine (d7x HA.out HK.out).mono ?_;rintro e w3 ⟨tx,rfl,htx,ht,ha⟩;replace HA:=a0b ha;have HTX:=a0b htx;clear ha htx)
    |(go_at_call 26;refine (a1h HA.out 60 (by omega) (by omega)).mono ?_;rintro e w1 ⟨v1,rfl,a1,b1,ha1⟩;replace HA:=a0b ha1;clear ha1;have k1:IntKind.i64.wrap (1+v1)=1+v1:=a0G (by omega) (by omega);have z1:=Txt.a0I (1+v1) (by omega) (by omega))
    |(go_at_call 22;refine (a3L HA.out (1+v1) (by omega) (by omega)).mono ?_;rintro e w8 ⟨rfl,ha⟩;replace HA:=a0b ha;clear ha))
   go_ret;exact⟨_,rfl,by rw[HTX.out];exact (e4f HK.out (by omega) (by omega)).1,HA.out⟩
 iterate 3
  ·go_wp2_with (first
    |(go_at_call 25;refine (a7L HA.out).mono ?_;rintro e w2 ⟨nm,u,fr,til,rfl,hok,ha⟩;replace HA:=a0b ha;have HK:=a0b hok;clear ha hok)
    |(go_at_call 28;refine (d7x HA.out HK.out).mono ?_;rintro e w3 ⟨tx,rfl,htx,ht,ha⟩;replace HA:=a0b ha;have HTX:=a0b htx;clear ha htx)
    |(go_at_call 26;refine (a1h HA.out 90 (by omega) (by omega)).mono ?_;rintro e w1 ⟨v1,rfl,a1,b1,ha1⟩;replace HA:=a0b ha1;clear ha1;have k1:IntKind.i64.wrap (1+v1)=1+v1:=a0G (by omega) (by omega);have z1:=Txt.a0I (1+v1) (by omega) (by omega))
    |(go_at_call 22;refine (a3L HA.out (1+v1) (by omega) (by omega)).mono ?_;rintro e w8 ⟨rfl,ha⟩;replace HA:=a0b ha;clear ha))
   go_ret;exact⟨_,rfl,by rw[HTX.out];exact (e4f HK.out (by omega) (by omega)).2,HA.out⟩
 iterate 2
  ·go_wp2_with (first
    |(go_at_call 26;refine (a1h HA.out 12 (by omega) (by omega)).mono ?_;rintro e w1 ⟨v1,rfl,a1,b1,ha1⟩;replace HA:=a0b ha1;clear ha1;have k1:IntKind.i64.wrap (1+v1)=1+v1:=a0G (by omega) (by omega);have z1:=Txt.a0I (1+v1) (by omega) (by omega))
    |(go_at_call 22;refine (a3L HA.out (1+v1) (by omega) (by omega)).mono ?_;rintro e w8 ⟨rfl,ha⟩;replace HA:=a0b ha;clear ha))
   go_ret
   first|exact⟨_,rfl,e6o (by omega) (by omega),HA.out⟩|exact⟨_,rfl,e4g (by omega) (by omega),HA.out⟩
 ·go_wp2_with (first
   |(go_at_call 26;refine (a1h HA.out 40 (by omega) (by omega)).mono ?_;rintro e w1 ⟨v1,rfl,a1,b1,ha1⟩;replace HA:=a0b ha1;clear ha1;have k1:IntKind.i64.wrap (1+v1)=1+v1:=a0G (by omega) (by omega);have z1:=Txt.a0I (1+v1) (by omega) (by omega))
   |(go_at_call 22;refine (a3L HA.out (1+v1) (by omega) (by omega)).mono ?_;rintro e w8 ⟨rfl,ha⟩;replace HA:=a0b ha;clear ha))
  go_ret;exact⟨_,rfl,f3D (by omega) (by omega),HA.out⟩
 ·go_upto_region 18 with fail
  refine f9N HA.out ?_;intro u56 u57 u58 u59 u60 u61 u62 u63 u64 z t W hz ht hW;have hz4:=d8S hz;have ht4:=e0M ht;have HZ:=a0b hz;have HT:=a0b ht;clear hz ht;have HW:=a0b hW;clear hW
  go_wp2_with fail
  go_ret;exact⟨_,rfl,e6n HZ.out HT.out,HW.out⟩
theorem f2H(ps:List ByteArray)(pc ev:Int)(acc:List Int)(fr mn mi ti un:Int)(w:World)(he:Env w)(hl:ps.length<=3)(f0:0<=fr)(f1:fr<=728)(m0:0<=mn)(m1:mn<1440)(i0:0<=mi)(i1:mi<=9999999)(t0:0<ti)(t1:ti<=9999999)
  (hp:∀ x,Env x->Calls Tryz.prog 338 #[b9E pc ev acc fr mn mi ti un] x fun e w'=>WR x w' ps e):
  Calls Tryz.prog 337 #[b9E pc ev acc fr mn mi ti un] w fun e w'=>WR w w' (ps++e7C fr mn mi++[b2z,Txt.a0x ti]) e:=by
 obtain⟨inf,hi0,hz0,hz1,hz2⟩:=info_parts e4B;simp only[b9E] at hp ⊢
 go_enter Tryz.func337,Tryz.ntmps337
 go_wp2_with fail
 obtain⟨X,hX⟩:∃ X,X=w.alloc (.cells #[.int .i64 pc,.int .i64 ev,.bool (isd acc 0),.bool (isd acc 1),.bool (isd acc 2),.bool (isd acc 3),.bool (isd acc 4),.bool (isd acc 5),.bool (isd acc 6),.int .i64 fr,.int .i64 mn,.int .i64 mi,.int .i64 ti,.int .i64 un] 162):=⟨_,rfl⟩;rw[<- hX];have hbX:Below w.heap.size w X:=by rw[hX];exact (zr _ _).alloc (zq _) _
 have eX:=he.later hbX;have hXs:w.heap.size+1<=X.heap.size:=by rw[hX];simp
 have hXs10:10<=w.heap.size+1:=by have:=he.size;omega
 have x9:X.cell? ⟨w.heap.size,9,none⟩=some (.int .i64 fr):=by rw[hX];simp
 have x10:X.cell? ⟨w.heap.size,10,none⟩=some (.int .i64 mn):=by rw[hX];simp
 have x11:X.cell? ⟨w.heap.size,11,none⟩=some (.int .i64 mi):=by rw[hX];simp
 have x12:X.cell? ⟨w.heap.size,12,none⟩=some (.int .i64 ti):=by rw[hX];simp
 have x13:X.cell? ⟨w.heap.size,13,none⟩=some (.int .i64 un):=by rw[hX];simp
 clear hX he;refine (hp X eX).mono ?_;rintro e w1 ⟨v1,rfl,ho1,hb1⟩;clear hp;have bX:Below (w.heap.size+1) X w1:=hb1.mono hXs;have hs1:=bX.size;have y9:=(bX.cell (p:=⟨w.heap.size,9,none⟩) (by simp)).trans x9;have y10:=(bX.cell (p:=⟨w.heap.size,10,none⟩) (by simp)).trans x10;have y11:=(bX.cell (p:=⟨w.heap.size,11,none⟩) (by simp)).trans x11;have y12:=(bX.cell (p:=⟨w.heap.size,12,none⟩) (by simp)).trans x12;have y13:=(bX.cell (p:=⟨w.heap.size,13,none⟩) (by simp)).trans x13;have hoN:=c9G (base':=w.heap.size+1) ho1 hXs;clear ho1 hb1
 go_wp2_with fail
 have hoN:=hoN.drew
 go_region_held3 (fun w'=>Below (w.heap.size+1) X w'/\w'.cell? ⟨w.heap.size,9,none⟩=some (.int .i64 fr)/\w'.cell? ⟨w.heap.size,10,none⟩=some (.int .i64 mn)/\w'.cell? ⟨w.heap.size,11,none⟩=some (.int .i64 mi)/\w'.cell? ⟨w.heap.size,12,none⟩=some (.int .i64 ti)/\w'.cell? ⟨w.heap.size,13,none⟩=some (.int .i64 un))
  (first
   |(go_split_ands;exact d6L (c8V hXs (by assumption) hbf) (fun hk=>⟨(hk.cell (p:=⟨w.heap.size,9,none⟩) (by simp)).trans x9,(hk.cell (p:=⟨w.heap.size,10,none⟩) (by simp)).trans x10,(hk.cell (p:=⟨w.heap.size,11,none⟩) (by simp)).trans x11,(hk.cell (p:=⟨w.heap.size,12,none⟩) (by simp)).trans x12,(hk.cell (p:=⟨w.heap.size,13,none⟩) (by simp)).trans x13⟩))
   |(go_split_ands;exact d6L (c8V hXs (by assumption) ((zr _ _).alloc (zq _) _)) (fun hk=>⟨(hk.cell (p:=⟨w.heap.size,9,none⟩) (by simp)).trans x9,(hk.cell (p:=⟨w.heap.size,10,none⟩) (by simp)).trans x10,(hk.cell (p:=⟨w.heap.size,11,none⟩) (by simp)).trans x11,(hk.cell (p:=⟨w.heap.size,12,none⟩) (by simp)).trans x12,(hk.cell (p:=⟨w.heap.size,13,none⟩) (by simp)).trans x13⟩))
   |(go_split_ands;exact d6L (c8V hXs (by assumption) (c7Y _)) (fun hk=>⟨(hk.cell (p:=⟨w.heap.size,9,none⟩) (by simp)).trans x9,(hk.cell (p:=⟨w.heap.size,10,none⟩) (by simp)).trans x10,(hk.cell (p:=⟨w.heap.size,11,none⟩) (by simp)).trans x11,(hk.cell (p:=⟨w.heap.size,12,none⟩) (by simp)).trans x12,(hk.cell (p:=⟨w.heap.size,13,none⟩) (by simp)).trans x13⟩))
   |(go_split_ands;exact d6L (Below.grown (by assumption) hgrow (by simp;omega) (fun k hk=>d0U hoN hk)) (fun hk=>⟨(hk.cell (p:=⟨w.heap.size,9,none⟩) (by simp)).trans x9,(hk.cell (p:=⟨w.heap.size,10,none⟩) (by simp)).trans x10,(hk.cell (p:=⟨w.heap.size,11,none⟩) (by simp)).trans x11,(hk.cell (p:=⟨w.heap.size,12,none⟩) (by simp)).trans x12,(hk.cell (p:=⟨w.heap.size,13,none⟩) (by simp)).trans x13⟩)))
  (first
   |(
    go_at_call 331
    go_split_ands
    refine (d3R _ _ (eX.of10 hXs10 (by assumption)) (by omega) (by omega)).mono ?_;rintro e w5 ⟨rfl,hbf⟩;have hs5:=d1E (B:=w.heap.size+1) (x:=X) (by assumption) hbf
    have hoN:=c9H hoN hbf)
   |(
    go_at_call 332
    go_split_ands
    refine (d2S _ _ (eX.of10 hXs10 (by assumption)) (by omega) (by omega)).mono ?_;rintro e w5 ⟨rfl,hbf⟩;have hs5:=d1E (B:=w.heap.size+1) (x:=X) (by assumption) hbf
    have hoN:=c9H hoN hbf)
   |(
    go_at_call 327
    go_split_ands
    refine (d0r _ _ (eX.of10 hXs10 (by assumption)) (by omega) (by omega)).mono ?_;rintro e w5 ⟨rfl,hbf⟩;have hs5:=d1E (B:=w.heap.size+1) (x:=X) (by assumption) hbf
    have hoN:=c9H hoN hbf)
   |((refine step_append_lies _ (by rfl) _ _ _ (by rfl) (w.heap.size+1) 9 inf _ 1 16 Tryz.underlying26 hi0 hz0 hz1 hz2 rfl (by omega) v1 ps.length (ps.map Value.string) (by rfl) (hoN.alloc _) ⟨w5.heap.size,0,none⟩ 6 6 [.string a1t,.string (d0L fr),.string atW,.string (d8f mn),.string b3z,.string (Txt.a0x mi)] (by rfl) (by rfl) (World.news_of_block (cs:=#[.string a1t,.string (d0L fr),.string atW,.string (d8f mn),.string b3z,.string (Txt.a0x mi)]) (t:=9) (fr:=(0,0)) (heap_alloc_new _ _)) (by simp[Value.oneCell']) (by omega) (by unfold maxLen;omega) (by omega) (by simp;omega) (w5.heap.size+1) (by simp) ?_;intro g cap w6 hown6 hgrow hat hltg)))
 go_split_ands
 have hbE:Below (w.heap.size+1) X w6:=by assumption
 have hs6:=hbE.size;obtain⟨ys,hys⟩:∃ ys:List Value,ys=List.map Value.string ps++[Value.string a1t,Value.string (d0L fr),Value.string atW,Value.string (d8f mn),Value.string b3z,Value.string (Txt.a0x mi)]:=⟨_,rfl⟩;rw[<- hys] at hown6;have HYS:=hide hys;clear hys hgrow hat
 go_wp2_with fail
 refine (d0r ti w6 (eX.of10 hXs10 hbE) (by omega) (by omega)).mono ?_;rintro e w7 ⟨rfl,hb7⟩;have hoM:=c9H hown6 hb7;have hb67:Below (w.heap.size+1) X w7:=c8V hXs hbE hb7;have hs7:=hb67.size;clear hown6
 go_wp2_with (first
  |(at_builtin;refine wpList_append_own _ rfl _ _ 26 rfl (w.heap.size+1) 9 inf (.string ⟨#[]⟩) 1 16 Tryz.underlying26 hi0 hz0 hz1 hz2 rfl (by decide) _ _ _ rfl (hoM.alloc _) ⟨w7.heap.size,0,none⟩ 2 2 [.string b2z,.string (Txt.a0x ti)] rfl rfl ?c1 ?c2 ?c3 ?c4 ?c5 ?_))
 case c1=>exact World.news_of_block (cs:=#[.string b2z,.string (Txt.a0x ti)]) (heap_alloc_new w7 _)
 case c2=>simp[Value.oneCell']
 case c3=>unfold maxLen;omega
 case c4=>omega
 case c5=>simp;omega
 intro v8 w8 hown8 hgrow _;have hbG:Below (w.heap.size+1) X w8:=(hb67.alloc (by omega) _).grown hgrow (by simp;omega) (fun k hk=>d0U hoM hk);have HBG:=hide hbG;have HOW:=hide hown8;clear hbG hgrow hown8;go_wp2;go_ret;refine⟨_,rfl,?_,hbX.trans (HBG.out.mono (by omega))⟩;have h9:=c9G (base':=w.heap.size) HOW.out (by omega);rw[HYS.out] at h9;have e1:(ps++e7C fr mn mi++[b2z,Txt.a0x ti]).length=ps.length+6+2:=by simp[e7C]
 have e2:(ps++e7C fr mn mi++[b2z,Txt.a0x ti]).map Value.string=List.map Value.string ps++[Value.string a1t,Value.string (d0L fr),Value.string atW,Value.string (d8f mn),Value.string b3z,Value.string (Txt.a0x mi)]++[.string b2z,.string (Txt.a0x ti)]:=by simp[e7C]
 rw[e1,e2];exact h9
theorem f2G(ps:List ByteArray)(pc ev:Int)(acc:List Int)(fr mn mi un:Int)(w:World)(he:Env w)(hl:ps.length<=3)(f0:0<=fr)(f1:fr<=728)(m0:0<=mn)(m1:mn<1440)(i0:0<=mi)(i1:mi<=9999999)(t0:0<=un)(t1:un<=728)
  (hp:∀ x,Env x->Calls Tryz.prog 338 #[b9E pc ev acc fr mn mi 0 un] x fun e w'=>WR x w' ps e):
  Calls Tryz.prog 337 #[b9E pc ev acc fr mn mi 0 un] w fun e w'=>WR w w' (ps++e7C fr mn mi++[b5O,d0L un]) e:=by
 obtain⟨inf,hi0,hz0,hz1,hz2⟩:=info_parts e4B;simp only[b9E] at hp ⊢
 go_enter Tryz.func337,Tryz.ntmps337
 go_wp2_with fail
 obtain⟨X,hX⟩:∃ X,X=w.alloc (.cells #[.int .i64 pc,.int .i64 ev,.bool (isd acc 0),.bool (isd acc 1),.bool (isd acc 2),.bool (isd acc 3),.bool (isd acc 4),.bool (isd acc 5),.bool (isd acc 6),.int .i64 fr,.int .i64 mn,.int .i64 mi,.int .i64 0,.int .i64 un] 162):=⟨_,rfl⟩;rw[<- hX];have hbX:Below w.heap.size w X:=by rw[hX];exact (zr _ _).alloc (zq _) _
 have eX:=he.later hbX;have hXs:w.heap.size+1<=X.heap.size:=by rw[hX];simp
 have hXs10:10<=w.heap.size+1:=by have:=he.size;omega
 have x9:X.cell? ⟨w.heap.size,9,none⟩=some (.int .i64 fr):=by rw[hX];simp
 have x10:X.cell? ⟨w.heap.size,10,none⟩=some (.int .i64 mn):=by rw[hX];simp
 have x11:X.cell? ⟨w.heap.size,11,none⟩=some (.int .i64 mi):=by rw[hX];simp
 have x12:X.cell? ⟨w.heap.size,12,none⟩=some (.int .i64 0):=by rw[hX];simp
 have x13:X.cell? ⟨w.heap.size,13,none⟩=some (.int .i64 un):=by rw[hX];simp
 clear hX he;refine (hp X eX).mono ?_;rintro e w1 ⟨v1,rfl,ho1,hb1⟩;clear hp;have bX:Below (w.heap.size+1) X w1:=hb1.mono hXs;have hs1:=bX.size;have y9:=(bX.cell (p:=⟨w.heap.size,9,none⟩) (by simp)).trans x9;have y10:=(bX.cell (p:=⟨w.heap.size,10,none⟩) (by simp)).trans x10;have y11:=(bX.cell (p:=⟨w.heap.size,11,none⟩) (by simp)).trans x11;have y12:=(bX.cell (p:=⟨w.heap.size,12,none⟩) (by simp)).trans x12;have y13:=(bX.cell (p:=⟨w.heap.size,13,none⟩) (by simp)).trans x13;have hoN:=c9G (base':=w.heap.size+1) ho1 hXs;clear ho1 hb1
 go_wp2_with fail
 have hoN:=hoN.drew
 go_region_held3 (fun w'=>Below (w.heap.size+1) X w'/\w'.cell? ⟨w.heap.size,9,none⟩=some (.int .i64 fr)/\w'.cell? ⟨w.heap.size,10,none⟩=some (.int .i64 mn)/\w'.cell? ⟨w.heap.size,11,none⟩=some (.int .i64 mi)/\w'.cell? ⟨w.heap.size,12,none⟩=some (.int .i64 0)/\w'.cell? ⟨w.heap.size,13,none⟩=some (.int .i64 un))
  (first
   |(go_split_ands;exact d6L (c8V hXs (by assumption) hbf) (fun hk=>⟨(hk.cell (p:=⟨w.heap.size,9,none⟩) (by simp)).trans x9,(hk.cell (p:=⟨w.heap.size,10,none⟩) (by simp)).trans x10,(hk.cell (p:=⟨w.heap.size,11,none⟩) (by simp)).trans x11,(hk.cell (p:=⟨w.heap.size,12,none⟩) (by simp)).trans x12,(hk.cell (p:=⟨w.heap.size,13,none⟩) (by simp)).trans x13⟩))
   |(go_split_ands;exact d6L (c8V hXs (by assumption) ((zr _ _).alloc (zq _) _)) (fun hk=>⟨(hk.cell (p:=⟨w.heap.size,9,none⟩) (by simp)).trans x9,(hk.cell (p:=⟨w.heap.size,10,none⟩) (by simp)).trans x10,(hk.cell (p:=⟨w.heap.size,11,none⟩) (by simp)).trans x11,(hk.cell (p:=⟨w.heap.size,12,none⟩) (by simp)).trans x12,(hk.cell (p:=⟨w.heap.size,13,none⟩) (by simp)).trans x13⟩))
   |(go_split_ands;exact d6L (c8V hXs (by assumption) (c7Y _)) (fun hk=>⟨(hk.cell (p:=⟨w.heap.size,9,none⟩) (by simp)).trans x9,(hk.cell (p:=⟨w.heap.size,10,none⟩) (by simp)).trans x10,(hk.cell (p:=⟨w.heap.size,11,none⟩) (by simp)).trans x11,(hk.cell (p:=⟨w.heap.size,12,none⟩) (by simp)).trans x12,(hk.cell (p:=⟨w.heap.size,13,none⟩) (by simp)).trans x13⟩))
   |(go_split_ands;exact d6L (Below.grown (by assumption) hgrow (by simp;omega) (fun k hk=>d0U hoN hk)) (fun hk=>⟨(hk.cell (p:=⟨w.heap.size,9,none⟩) (by simp)).trans x9,(hk.cell (p:=⟨w.heap.size,10,none⟩) (by simp)).trans x10,(hk.cell (p:=⟨w.heap.size,11,none⟩) (by simp)).trans x11,(hk.cell (p:=⟨w.heap.size,12,none⟩) (by simp)).trans x12,(hk.cell (p:=⟨w.heap.size,13,none⟩) (by simp)).trans x13⟩)))
  (first
   |(
    go_at_call 331
    go_split_ands
    refine (d3R _ _ (eX.of10 hXs10 (by assumption)) (by omega) (by omega)).mono ?_;rintro e w5 ⟨rfl,hbf⟩;have hs5:=d1E (B:=w.heap.size+1) (x:=X) (by assumption) hbf
    have hoN:=c9H hoN hbf)
   |(
    go_at_call 332
    go_split_ands
    refine (d2S _ _ (eX.of10 hXs10 (by assumption)) (by omega) (by omega)).mono ?_;rintro e w5 ⟨rfl,hbf⟩;have hs5:=d1E (B:=w.heap.size+1) (x:=X) (by assumption) hbf
    have hoN:=c9H hoN hbf)
   |(
    go_at_call 327
    go_split_ands
    refine (d0r _ _ (eX.of10 hXs10 (by assumption)) (by omega) (by omega)).mono ?_;rintro e w5 ⟨rfl,hbf⟩;have hs5:=d1E (B:=w.heap.size+1) (x:=X) (by assumption) hbf
    have hoN:=c9H hoN hbf)
   |((refine step_append_lies _ (by rfl) _ _ _ (by rfl) (w.heap.size+1) 9 inf _ 1 16 Tryz.underlying26 hi0 hz0 hz1 hz2 rfl (by omega) v1 ps.length (ps.map Value.string) (by rfl) (hoN.alloc _) ⟨w5.heap.size,0,none⟩ 6 6 [.string a1t,.string (d0L fr),.string atW,.string (d8f mn),.string b3z,.string (Txt.a0x mi)] (by rfl) (by rfl) (World.news_of_block (cs:=#[.string a1t,.string (d0L fr),.string atW,.string (d8f mn),.string b3z,.string (Txt.a0x mi)]) (t:=9) (fr:=(0,0)) (heap_alloc_new _ _)) (by simp[Value.oneCell']) (by omega) (by unfold maxLen;omega) (by omega) (by simp;omega) (w5.heap.size+1) (by simp) ?_;intro g cap w6 hown6 hgrow hat hltg)))
 go_split_ands
 have hbE:Below (w.heap.size+1) X w6:=by assumption
 have hs6:=hbE.size;obtain⟨ys,hys⟩:∃ ys:List Value,ys=List.map Value.string ps++[Value.string a1t,Value.string (d0L fr),Value.string atW,Value.string (d8f mn),Value.string b3z,Value.string (Txt.a0x mi)]:=⟨_,rfl⟩;rw[<- hys] at hown6;have HYS:=hide hys;clear hys hgrow hat
 go_wp2_with fail
 refine (d3R un w6 (eX.of10 hXs10 hbE) (by omega) (by omega)).mono ?_;rintro e w7 ⟨rfl,hb7⟩;have hoM:=c9H hown6 hb7;have hb67:Below (w.heap.size+1) X w7:=c8V hXs hbE hb7;have hs7:=hb67.size;clear hown6
 go_wp2_with (first
  |(at_builtin;refine wpList_append_own _ rfl _ _ 26 rfl (w.heap.size+1) 9 inf (.string ⟨#[]⟩) 1 16 Tryz.underlying26 hi0 hz0 hz1 hz2 rfl (by decide) _ _ _ rfl (hoM.alloc _) ⟨w7.heap.size,0,none⟩ 2 2 [.string b5O,.string (d0L un)] rfl rfl ?c1 ?c2 ?c3 ?c4 ?c5 ?_))
 case c1=>exact World.news_of_block (cs:=#[.string b5O,.string (d0L un)]) (heap_alloc_new w7 _)
 case c2=>simp[Value.oneCell']
 case c3=>unfold maxLen;omega
 case c4=>omega
 case c5=>simp;omega
 intro v8 w8 hown8 hgrow _;have hbG:Below (w.heap.size+1) X w8:=(hb67.alloc (by omega) _).grown hgrow (by simp;omega) (fun k hk=>d0U hoM hk);have HBG:=hide hbG;have HOW:=hide hown8;clear hbG hgrow hown8;go_wp2;go_ret;refine⟨_,rfl,?_,hbX.trans (HBG.out.mono (by omega))⟩;have h9:=c9G (base':=w.heap.size) HOW.out (by omega);rw[HYS.out] at h9;have e1:(ps++e7C fr mn mi++[b5O,d0L un]).length=ps.length+6+2:=by simp[e7C]
 have e2:(ps++e7C fr mn mi++[b5O,d0L un]).map Value.string=List.map Value.string ps++[Value.string a1t,Value.string (d0L fr),Value.string atW,Value.string (d8f mn),Value.string b3z,Value.string (Txt.a0x mi)]++[.string b5O,.string (d0L un)]:=by simp[e7C]
 rw[e1,e2];exact h9
theorem d9d{B:Nat}(x:World)(xs:List ByteArray)(hB:B<=x.heap.size)(h0:xs.length<=160):(x.alloc (.cells (xs.map Value.string).toArray 9)).ownsRow B 9 1 (.slice (some ⟨x.heap.size,0,none⟩) xs.length xs.length) xs.length (xs.map Value.string):=by
 refine⟨by simp,.inr ⟨x.heap.size,xs.length,(xs.map Value.string).toArray,rfl,hB,heap_alloc_new x _,Nat.le_refl _,by unfold maxLen;omega,by simp,?_⟩⟩;exact List.take_of_length_le (by simp)
theorem e7X(pc ev:Int)(acc:List Int)(fr mn mi ti un:Int)(ps:List ByteArray)(hp:PaW pc ev acc ps)(w:World)(he:Env w):
  Calls Tryz.prog 338 #[b9E pc ev acc fr mn mi ti un] w fun e w'=>WR w w' ps e:=by
 cases hp with
 |daily ev acc e0 e1=>exact f2W ev acc fr mn mi ti un w he e0 e1
 |weekly ev acc e0 e1 hne hlen=>exact f0E ev acc fr mn mi ti un w he e0 e1 hne hlen
 |monthly ev acc e0 e1=>exact e6e ev acc fr mn mi ti un w he e0 e1
theorem e2k{ev:Int}(hp:PaW pc ev acc ps):ps.length<=3:=by
 cases hp <;> simp
theorem e7Q(pc ev:Int)(acc:List Int)(fr mn mi ti un:Int)(xs:List ByteArray)(hr:RW pc ev acc fr mn mi ti un xs)(w:World)(he:Env w):
  Calls Tryz.prog 337 #[b9E pc ev acc fr mn mi ti un] w fun e w'=>WR w w' xs e:=by
 cases hr with
 |mk ps es hp hen f0 f1 m0 m1 i0 i1 =>
  cases hen with
  |times _ _ t0 t1=>exact f2H ps pc ev acc fr mn mi ti un w he (e2k hp) f0 f1 m0 m1 i0 i1 t0 t1 (fun x hx=>e7X pc ev acc fr mn mi ti un ps hp x hx)
  |til _ u0 u1=>exact f2G ps pc ev acc fr mn mi un w he (e2k hp) f0 f1 m0 m1 i0 i1 u0 u1 (fun x hx=>e7X pc ev acc fr mn mi 0 un ps hp x hx)
theorem e7O{ev:Int}{mn mi ti un:Int}(hr:RW pc ev acc fr mn mi ti un xs):0<xs.length/\xs.length<=11:=by
 cases hr with
 |mk ps es hp hen f0 f1 m0 m1 i0 i1 =>
  have h1:=e2k hp;have h2:es.length=2:=by cases hen <;> rfl
  simp[e7C,h2];omega
theorem f9y(n:ByteArray)(u:Int)(pc ev:Int)(acc:List Int)(fr mn mi ti un:Int)(xs:List ByteArray)(hr:RW pc ev acc fr mn mi ti un xs)(w:World)(he:Env w)(u0:0<=u)(u1:u<=9999999):
  Calls Tryz.prog 336 #[.agg #[.string n,.int .i64 u,.int .i64 pc,.int .i64 ev,.bool (isd acc 0),.bool (isd acc 1),.bool (isd acc 2),.bool (isd acc 3),.bool (isd acc 4),.bool (isd acc 5),.bool (isd acc 6),.int .i64 fr,.int .i64 mn,.int .i64 mi,.int .i64 ti,.int .i64 un]] w fun e w'=>WR w w' ([a7l,n,Txt.a0x u]++xs) e:=by
 obtain⟨inf,hi0,hz0,hz1,hz2⟩:=info_parts e4B;obtain⟨hx0,hx1⟩:=e7O hr;have hrw:=fun x hx=>e7Q pc ev acc fr mn mi ti un xs hr x hx
 clear hr;simp only[b9E] at hrw
 go_enter Tryz.func336,Tryz.ntmps336
 go_wp2_with fail
 obtain⟨X,hX⟩:∃ X,X=w.alloc (.cells #[.string n,.int .i64 u,.int .i64 pc,.int .i64 ev,.bool (isd acc 0),.bool (isd acc 1),.bool (isd acc 2),.bool (isd acc 3),.bool (isd acc 4),.bool (isd acc 5),.bool (isd acc 6),.int .i64 fr,.int .i64 mn,.int .i64 mi,.int .i64 ti,.int .i64 un] 165):=⟨_,rfl⟩;rw[<- hX];have hbX:Below w.heap.size w X:=by rw[hX];exact (zr _ _).alloc (zq _) _
 have eX:=he.later hbX;have hXs:w.heap.size+1<=X.heap.size:=by rw[hX];simp
 have hXs10:10<=w.heap.size+1:=by have:=he.size;omega
 have x0:X.cell? ⟨w.heap.size,0,none⟩=some (.string n):=by rw[hX];simp
 have x1:X.cell? ⟨w.heap.size,1,none⟩=some (.int .i64 u):=by rw[hX];simp
 have x2:X.cell? ⟨w.heap.size,2,none⟩=some (.int .i64 pc):=by rw[hX];simp
 have x3:X.cell? ⟨w.heap.size,3,none⟩=some (.int .i64 ev):=by rw[hX];simp
 have x4:X.cell? ⟨w.heap.size,4,none⟩=some (.bool (isd acc 0)):=by rw[hX];simp
 have x5:X.cell? ⟨w.heap.size,5,none⟩=some (.bool (isd acc 1)):=by rw[hX];simp
 have x6:X.cell? ⟨w.heap.size,6,none⟩=some (.bool (isd acc 2)):=by rw[hX];simp
 have x7:X.cell? ⟨w.heap.size,7,none⟩=some (.bool (isd acc 3)):=by rw[hX];simp
 have x8:X.cell? ⟨w.heap.size,8,none⟩=some (.bool (isd acc 4)):=by rw[hX];simp
 have x9:X.cell? ⟨w.heap.size,9,none⟩=some (.bool (isd acc 5)):=by rw[hX];simp
 have x10:X.cell? ⟨w.heap.size,10,none⟩=some (.bool (isd acc 6)):=by rw[hX];simp
 have x11:X.cell? ⟨w.heap.size,11,none⟩=some (.int .i64 fr):=by rw[hX];simp
 have x12:X.cell? ⟨w.heap.size,12,none⟩=some (.int .i64 mn):=by rw[hX];simp
 have x13:X.cell? ⟨w.heap.size,13,none⟩=some (.int .i64 mi):=by rw[hX];simp
 have x14:X.cell? ⟨w.heap.size,14,none⟩=some (.int .i64 ti):=by rw[hX];simp
 have x15:X.cell? ⟨w.heap.size,15,none⟩=some (.int .i64 un):=by rw[hX];simp
 have bX:=zr (w.heap.size+1) X;clear hX he
 go_region_held3 (fun w'=>Below (w.heap.size+1) X w'/\w'.cell? ⟨w.heap.size,0,none⟩=some (.string n)/\w'.cell? ⟨w.heap.size,1,none⟩=some (.int .i64 u)/\w'.cell? ⟨w.heap.size,2,none⟩=some (.int .i64 pc)/\w'.cell? ⟨w.heap.size,3,none⟩=some (.int .i64 ev)/\w'.cell? ⟨w.heap.size,4,none⟩=some (.bool (isd acc 0))/\w'.cell? ⟨w.heap.size,5,none⟩=some (.bool (isd acc 1))/\w'.cell? ⟨w.heap.size,6,none⟩=some (.bool (isd acc 2))/\w'.cell? ⟨w.heap.size,7,none⟩=some (.bool (isd acc 3))/\w'.cell? ⟨w.heap.size,8,none⟩=some (.bool (isd acc 4))/\w'.cell? ⟨w.heap.size,9,none⟩=some (.bool (isd acc 5))/\w'.cell? ⟨w.heap.size,10,none⟩=some (.bool (isd acc 6))/\w'.cell? ⟨w.heap.size,11,none⟩=some (.int .i64 fr)/\w'.cell? ⟨w.heap.size,12,none⟩=some (.int .i64 mn)/\w'.cell? ⟨w.heap.size,13,none⟩=some (.int .i64 mi)/\w'.cell? ⟨w.heap.size,14,none⟩=some (.int .i64 ti)/\w'.cell? ⟨w.heap.size,15,none⟩=some (.int .i64 un))
  (first
   |(go_split_ands;exact d6L (c8V hXs (by assumption) hbf) (fun hk=>⟨(hk.cell (p:=⟨w.heap.size,0,none⟩) (by simp)).trans x0,(hk.cell (p:=⟨w.heap.size,1,none⟩) (by simp)).trans x1,(hk.cell (p:=⟨w.heap.size,2,none⟩) (by simp)).trans x2,(hk.cell (p:=⟨w.heap.size,3,none⟩) (by simp)).trans x3,(hk.cell (p:=⟨w.heap.size,4,none⟩) (by simp)).trans x4,(hk.cell (p:=⟨w.heap.size,5,none⟩) (by simp)).trans x5,(hk.cell (p:=⟨w.heap.size,6,none⟩) (by simp)).trans x6,(hk.cell (p:=⟨w.heap.size,7,none⟩) (by simp)).trans x7,(hk.cell (p:=⟨w.heap.size,8,none⟩) (by simp)).trans x8,(hk.cell (p:=⟨w.heap.size,9,none⟩) (by simp)).trans x9,(hk.cell (p:=⟨w.heap.size,10,none⟩) (by simp)).trans x10,(hk.cell (p:=⟨w.heap.size,11,none⟩) (by simp)).trans x11,(hk.cell (p:=⟨w.heap.size,12,none⟩) (by simp)).trans x12,(hk.cell (p:=⟨w.heap.size,13,none⟩) (by simp)).trans x13,(hk.cell (p:=⟨w.heap.size,14,none⟩) (by simp)).trans x14,(hk.cell (p:=⟨w.heap.size,15,none⟩) (by simp)).trans x15⟩))
   |(go_split_ands;exact d6L (c8V hXs (by assumption) ((zr _ _).alloc (zq _) _)) (fun hk=>⟨(hk.cell (p:=⟨w.heap.size,0,none⟩) (by simp)).trans x0,(hk.cell (p:=⟨w.heap.size,1,none⟩) (by simp)).trans x1,(hk.cell (p:=⟨w.heap.size,2,none⟩) (by simp)).trans x2,(hk.cell (p:=⟨w.heap.size,3,none⟩) (by simp)).trans x3,(hk.cell (p:=⟨w.heap.size,4,none⟩) (by simp)).trans x4,(hk.cell (p:=⟨w.heap.size,5,none⟩) (by simp)).trans x5,(hk.cell (p:=⟨w.heap.size,6,none⟩) (by simp)).trans x6,(hk.cell (p:=⟨w.heap.size,7,none⟩) (by simp)).trans x7,(hk.cell (p:=⟨w.heap.size,8,none⟩) (by simp)).trans x8,(hk.cell (p:=⟨w.heap.size,9,none⟩) (by simp)).trans x9,(hk.cell (p:=⟨w.heap.size,10,none⟩) (by simp)).trans x10,(hk.cell (p:=⟨w.heap.size,11,none⟩) (by simp)).trans x11,(hk.cell (p:=⟨w.heap.size,12,none⟩) (by simp)).trans x12,(hk.cell (p:=⟨w.heap.size,13,none⟩) (by simp)).trans x13,(hk.cell (p:=⟨w.heap.size,14,none⟩) (by simp)).trans x14,(hk.cell (p:=⟨w.heap.size,15,none⟩) (by simp)).trans x15⟩))
   |(go_split_ands;exact d6L (c8V hXs (by assumption) (c7Y _)) (fun hk=>⟨(hk.cell (p:=⟨w.heap.size,0,none⟩) (by simp)).trans x0,(hk.cell (p:=⟨w.heap.size,1,none⟩) (by simp)).trans x1,(hk.cell (p:=⟨w.heap.size,2,none⟩) (by simp)).trans x2,(hk.cell (p:=⟨w.heap.size,3,none⟩) (by simp)).trans x3,(hk.cell (p:=⟨w.heap.size,4,none⟩) (by simp)).trans x4,(hk.cell (p:=⟨w.heap.size,5,none⟩) (by simp)).trans x5,(hk.cell (p:=⟨w.heap.size,6,none⟩) (by simp)).trans x6,(hk.cell (p:=⟨w.heap.size,7,none⟩) (by simp)).trans x7,(hk.cell (p:=⟨w.heap.size,8,none⟩) (by simp)).trans x8,(hk.cell (p:=⟨w.heap.size,9,none⟩) (by simp)).trans x9,(hk.cell (p:=⟨w.heap.size,10,none⟩) (by simp)).trans x10,(hk.cell (p:=⟨w.heap.size,11,none⟩) (by simp)).trans x11,(hk.cell (p:=⟨w.heap.size,12,none⟩) (by simp)).trans x12,(hk.cell (p:=⟨w.heap.size,13,none⟩) (by simp)).trans x13,(hk.cell (p:=⟨w.heap.size,14,none⟩) (by simp)).trans x14,(hk.cell (p:=⟨w.heap.size,15,none⟩) (by simp)).trans x15⟩))
   |(go_split_ands;exact d6L (Below.grown (by assumption) hgrow (by (try simp);omega) (fun k hk=>d0U hoN hk)) (fun hk=>⟨(hk.cell (p:=⟨w.heap.size,0,none⟩) (by simp)).trans x0,(hk.cell (p:=⟨w.heap.size,1,none⟩) (by simp)).trans x1,(hk.cell (p:=⟨w.heap.size,2,none⟩) (by simp)).trans x2,(hk.cell (p:=⟨w.heap.size,3,none⟩) (by simp)).trans x3,(hk.cell (p:=⟨w.heap.size,4,none⟩) (by simp)).trans x4,(hk.cell (p:=⟨w.heap.size,5,none⟩) (by simp)).trans x5,(hk.cell (p:=⟨w.heap.size,6,none⟩) (by simp)).trans x6,(hk.cell (p:=⟨w.heap.size,7,none⟩) (by simp)).trans x7,(hk.cell (p:=⟨w.heap.size,8,none⟩) (by simp)).trans x8,(hk.cell (p:=⟨w.heap.size,9,none⟩) (by simp)).trans x9,(hk.cell (p:=⟨w.heap.size,10,none⟩) (by simp)).trans x10,(hk.cell (p:=⟨w.heap.size,11,none⟩) (by simp)).trans x11,(hk.cell (p:=⟨w.heap.size,12,none⟩) (by simp)).trans x12,(hk.cell (p:=⟨w.heap.size,13,none⟩) (by simp)).trans x13,(hk.cell (p:=⟨w.heap.size,14,none⟩) (by simp)).trans x14,(hk.cell (p:=⟨w.heap.size,15,none⟩) (by simp)).trans x15⟩)))
  (first
   |(
    go_at_call 327
    go_split_ands
    refine (d0r u _ (eX.of10 hXs10 (by assumption)) (by omega) (by omega)).mono ?_;rintro e w4 ⟨rfl,hbf⟩
    have hs4:=d1E (B:=w.heap.size+1) (x:=X) (by assumption) hbf)
   |(
    go_at_call 337
    go_split_ands
    refine (hrw _ (eX.of10 hXs10 (by assumption))).mono ?_;rintro e w5 ⟨v2,rfl,ho2,hbf⟩;obtain⟨g2,cap2,rfl,hg2,hl2,hc2⟩:=d8s ho2 hx0
    have hs5:=d1E (B:=w.heap.size+1) (x:=X) (by assumption) hbf)
   |(
    have hoN:=c9H (d9d (B:=w.heap.size+1) w4 [a7l,n,Txt.a0x u] (by omega) (by simp)) hbf
    (refine step_append_lies _ (by rfl) _ _ _ (by rfl) (w.heap.size+1) 9 inf _ 1 16 Tryz.underlying26 hi0 hz0 hz1 hz2 rfl (by omega) (.slice (some ⟨w4.heap.size,0,none⟩) 3 3) 3 ([a7l,n,Txt.a0x u].map Value.string) (by rfl) hoN ⟨g2,0,none⟩ xs.length cap2 (xs.map Value.string) (by rfl) (by simp) hc2 (by intro u hu;simp only[List.mem_map] at hu;obtain⟨x,_,rfl⟩:=hu;rfl) (by omega) (by unfold maxLen;omega) (by omega) (by (try simp);omega) w5.heap.size (by simp) ?_;intro g cap w6 hown6 hgrow hat hltg))
   |(
    have hoN:=d9d (B:=w.heap.size+1) w5 [a7l,n,Txt.a0x u] (by omega) (by simp);obtain⟨g3,cap3,e3,_,_,hc3⟩:=d8s (ho2.alloc (.cells ([a7l,n,Txt.a0x u].map Value.string).toArray 9)) hx0
    cases e3
    (refine step_append_lies _ (by rfl) _ _ _ (by rfl) (w.heap.size+1) 9 inf _ 1 16 Tryz.underlying26 hi0 hz0 hz1 hz2 rfl (by omega) (.slice (some ⟨w5.heap.size,0,none⟩) 3 3) 3 ([a7l,n,Txt.a0x u].map Value.string) (by rfl) hoN ⟨g2,0,none⟩ xs.length cap2 (xs.map Value.string) (by rfl) (by simp) hc3 (by intro u hu;simp only[List.mem_map] at hu;obtain⟨x,_,rfl⟩:=hu;rfl) (by omega) (by unfold maxLen;omega) (by omega) (by (try simp);omega) (w5.heap.size+1) (by simp) ?_;intro g cap w6 hown6 hgrow hat hltg)))
 all_goals
  go_split_ands
  have hbE:Below (w.heap.size+1) X w6:=by assumption
  have HBE:=hide hbE;have HOW:=hide hown6;clear hbE hown6;go_wp2;go_ret;refine⟨_,rfl,?_,hbX.trans (HBE.out.mono (by omega))⟩;have h9:=c9G (base':=w.heap.size) HOW.out (by omega);have e1:(a7l :: n :: Txt.a0x u :: xs).length=3+xs.length:=by simp;omega
  rw[e1];exact h9
theorem c9M (T K : Nat) (x : Value) (xs : List ByteArray) (w : World) (he : Env w) (hm : ∀ w : World, (method 498 T x "bookings/lines.plainWords").run Tryz.prog w = .ok (K, x) w) (hk : ∀ w : World, (callFunc K #[x]).run Tryz.prog w = .ok (.enter K #[x]) w)
  (hc:∀ w:World,Env w->Calls Tryz.prog K #[x] w fun e w'=>WR w w' xs e) (h0:0<xs.length) (h1:xs.length<=20) (hlen:(Lib.join (xs.map (·.data.toList)) [32]).length<=30000):
  Calls Tryz.prog 50 #[.iface T x] w fun e w'=>e=.returned (.string (jn xs))/\Below w.heap.size w w':=by
 have HE:=hide he;have HC:=hide hc;have HLEN:=hide hlen;clear he hc hlen
 go_enter Tryz.func50,Tryz.ntmps50
 go_wp2_with fail
 refine (a0d HC w (a0d HE)).mono ?_;rintro e w1 ⟨v,rfl,ho,hb1⟩;obtain⟨a,c,g,rfl,hrow⟩:=e0O ho rfl;obtain rfl:=hrow.at_ h0;have HROW:=hide hrow
 have hcap:xs.length<=c:=by
  rcases ho.2 with ⟨h,_⟩|⟨g',cap,cur,hv,_,_,hc,_⟩
  ·cases h
  ·cases hv;exact hc
 have hgl:g<w1.heap.size:=zb _ ⟨g,0,none⟩ (hrow.cells 0 h0);clear ho hrow
 go_wp2_with fail
 refine (Tryz.strings_Join g 0 c xs ⟨#[32]⟩ w1 (fun j x hx=>?_) hgl (by omega) hcap (zt (a0d HLEN) (by omega))).mono ?_
 ·obtain⟨hj,e⟩:=List.getElem?_eq_some_iff.1 hx;have:=(a0d HROW).cells j hj;rw[e] at this;rw[Nat.zero_add];exact this
 rintro e w' ⟨rfl,hbj⟩;have hbe:=c8d hb1 hbj;go_wp2;go_ret;exact⟨rfl,hbe⟩
theorem f9P(xs:List ByteArray):(Lib.join (xs.map (·.data.toList)) [32]).length=(jn xs).size:=by
 rw[<- Txt.a1d];rfl
theorem f5p(v:Value)(xs:List ByteArray)(hk:c2h v∈d2B)(hp:PW v xs)(w:World)(he:Env w)(h0:0<xs.length)(h1:xs.length<=20)(hs:(jn xs).size<=30000):
  Calls Tryz.prog 50 #[v] w fun e w'=>e=.returned (.string (jn xs))/\Below w.heap.size w w':=by
 rw[<- f9P] at hs
 cases hp with
 |a0k=>exact absurd hk (show ¬ ((149:Nat)∈d2B) by decide)
 |book n u a b u0 u1 a0 a1 b0 b1=>exact c9M 154 328 _ _ w he (fun _=>by kernel_rfl) (fun _=>by kernel_rfl) (fun w he=>g2u n u a b w he u0 u1 a0 a1 b0 b1) h0 h1 hs
 |hold n u a b m u0 u1 a0 a1 b0 b1 m0 m1=>exact c9M 156 334 _ _ w he (fun _=>by kernel_rfl) (fun _=>by kernel_rfl) (fun w he=>g2s n u a b m w he u0 u1 a0 a1 b0 b1 m0 m1) h0 h1 hs
 |wait n u a b m u0 u1 a0 a1 b0 b1 m0 m1=>exact c9M 157 335 _ _ w he (fun _=>by kernel_rfl) (fun _=>by kernel_rfl) (fun w he=>g2p n u a b m w he u0 u1 a0 a1 b0 b1 m0 m1) h0 h1 hs
 |series n u pc ev acc fr mn mi ti un xs u0 u1 hr=>exact c9M 165 336 _ _ w he (fun _=>by kernel_rfl) (fun _=>by kernel_rfl) (fun w he=>f9y n u pc ev acc fr mn mi ti un xs hr w he u0 u1) h0 h1 hs
 |confirm u u0 u1=>exact c9M 167 340 _ _ w he (fun _=>by kernel_rfl) (fun _=>by kernel_rfl) (fun w he=>f6H u w he u0 u1) h0 h1 hs
 |cancel u u0 u1=>exact c9M 168 341 _ _ w he (fun _=>by kernel_rfl) (fun _=>by kernel_rfl) (fun w he=>f9A u w he u0 u1) h0 h1 hs
 |list0=>exact absurd hk (show ¬ ((170:Nat)∈d2B) by decide)
 |list1=>exact absurd hk (show ¬ ((170:Nat)∈d2B) by decide)
 |waiting=>exact absurd hk (show ¬ ((173:Nat)∈d2B) by decide)
 |peak=>exact absurd hk (show ¬ ((176:Nat)∈d2B) by decide)
 |find=>exact absurd hk (show ¬ ((178:Nat)∈d2B) by decide)
 |expand=>exact absurd hk (show ¬ ((180:Nat)∈d2B) by decide)
 |tick u u0 u1=>exact c9M 182 347 _ _ w he (fun _=>by kernel_rfl) (fun _=>by kernel_rfl) (fun w he=>g2q u w he u0 u1) h0 h1 hs
 |clock=>exact absurd hk (show ¬ ((183:Nat)∈d2B) by decide)
theorem e6W(s:ByteArray)(w:World)(he:Env w){v:Value}(hr:Reads s v)(hk:c2h v∈d2B)(hp:PW v xs)(x0:0<xs.length)(x1:xs.length<=20)(hsz:(jn xs).size<=30000):
  Calls Tryz.prog 35 #[.string s] w fun e w'=>e=.returned (.tuple #[.string (jn xs),.int .i64 0,.int .i64 0])/\Below w.heap.size w w':=by
 have HE:=hide he;have HR:=hide hr;have HPW:=hide hp;have HK:=hide hk;clear he hr hp hk
 go_enter Tryz.func35,Tryz.ntmps35
 go_wp2_with fail
 refine (b6h s w (a0d HE)).mono ?_;rintro e w1 ⟨hr,hb1⟩;have e1:=(a0d HR) e hr;subst e1;clear hr HR
 go_wp2_with fail
 refine (f5p v xs (a0d HK) (a0d HPW) w1 ((a0d HE).later hb1) x0 x1 hsz).mono ?_;rintro e w2 ⟨rfl,hb2⟩;have hbb:=c8d hb1 hb2;go_wp2;go_ret3;exact⟨rfl,hbb⟩
open Desk (Ent St Ids kept a0C a0Q a1C a2e ofB a0y a2c Mid a1H a0z Inv a0h a2x a1q Rep)
theorem f2r(w:World)(he:Env w):Calls Tryz.prog 44 #[] w fun e w'=>∃ p d col,e=.returned (.pointer (some ⟨p,0,none⟩))/\BD w' p d st0 c2z col/\Below w.heap.size w w'/\(∀ b,b<w.heap.size->col b=none)/\w.heap.size<=p:=by
 have DN:=a0b (b5o w);have HE:=a0b he;have hsz:=he.size;clear he
 go_enter Tryz.func44,Tryz.ntmps44
 go_wp2_with (first
  |(go_at_call 60;refine DN.out.mono ?_;rintro e w1 ⟨v,rfl,rfl,hd,hb⟩))
 have HF:Hid (BD (w1.alloc (.cells #[.pointer (some ⟨w.heap.size+2,0,none⟩)] 99)) w1.heap.size (w.heap.size+2) st0 c2z (c1O w.heap.size)/\Below w.heap.size w (w1.alloc (.cells #[.pointer (some ⟨w.heap.size+2,0,none⟩)] 99))/\(∀ b,b<w.heap.size->c1O w.heap.size b=none)/\w.heap.size<=w1.heap.size):=by
  have k:Below w1.heap.size w1 (w1.alloc (.cells #[.pointer (some ⟨w.heap.size+2,0,none⟩)] 99)):=(zr _ _).alloc (zq _) _;have hlow:∀ b,b<w.heap.size->c1O w.heap.size b=none:=fun b hb'=>by unfold c1O;rw[if_neg (by omega),if_neg (by omega),if_neg (by omega)]
  exact⟨⟨a0p w1 _,hd.dk.none (zq _),⟨hd.dk.later k,hd.of,hd.wl,hd.hl,hd.inv⟩,(HE.out.later hb).later k,fun b hb'=>hlow b (by omega)⟩,hb.trans (k.mono hb.size),hlow,hb.size⟩
 clear hd hb
 go_wp2_with fail
 exact bodyPost_ret (v:=.pointer (some ⟨w1.heap.size,0,none⟩)) (by simp[results,Tryz.results44,go_sem]) rfl ⟨_,_,_,rfl,HF.out⟩
theorem f0a(w:World)(he:Env w)(a b:Int)(ha:1<=a/\a<=9)(hb:1<=b/\b<=9):
  Calls Tryz.prog 18 #[.agg #[.int .i64 a,.int .i64 b]] w fun e w'=>∃ p dk r col,e=.returned (.tuple #[.pointer (some ⟨p,0,none⟩),.bool true])/\DG w w' p dk (a3Z a b) r col/\w.heap.size<=p:=by
 have hX:Below w.heap.size w (w.alloc (a1T a b)):=(zr _ _).alloc (zq _) _;have hq:(w.alloc (a1T a b)).heap[w.heap.size]?=some (a1T a b):=a0p w _;have z1:=Txt.a0I a (by omega) (by omega);have z2:=Txt.a0I b (by omega) (by omega);have NE:=a0b (f2r _ (he.later hX));have HX:=a0b (zA hX hq);have TA:Hid (Reads ((⟨#[116,104,105,110,103,32,97,32]⟩:ByteArray)++Txt.a0x a) (.iface 149 (.agg #[.string nmA,.int .i64 a]))):=a8K c7k ha (by rw[Txt.a1X];rfl);have TB:Hid (Reads ((⟨#[116,104,105,110,103,32,98,32]⟩:ByteArray)++Txt.a0x b) (.iface 149 (.agg #[.string nmC,.int .i64 b]))):=a8K c7j hb (by rw[Txt.a1X];rfl);obtain⟨ha1,ha9⟩:=ha;obtain⟨hb1,hb9⟩:=hb;clear hX hq he
 go_enter Tryz.func18,Tryz.ntmps18
 go_upto_region 1 with fail
 change Code.wp _ _ _ _ (w.alloc (a1T a b));have hs:w.heap.size<(w.alloc (a1T a b)).heap.size:=by simp
 generalize w.alloc (a1T a b)=X at *
 go_upto_region 4 with (first
  |(go_at_call 44;refine NE.out.mono ?_;rintro e w1 ⟨p,dk,c1O,rfl,bd,hbw,hlo,hpp⟩))
 have HPP:=a0b (zt (Nat.le_of_lt hs) hpp);clear hpp;have D1:=a0b (DG.mk bd hbw hlo);have hr1:=(hbw.block w.heap.size hs).trans HX.out.2;clear NE bd hbw hlo
 have RO:Hid (∀ W':World,Below X.heap.size X W'->W'.cell? ⟨w.heap.size,0,none⟩=some (.int .i64 a)/\W'.cell? ⟨w.heap.size,1,none⟩=some (.int .i64 b)):=fun W' k=>by
  have h:=(k.block w.heap.size hs).trans HX.out.2;unfold a1T at h;obtain⟨x,y,_⟩:=b0q h;exact⟨x,y⟩
 obtain⟨ra,rb⟩:=RO.out w1 D1.out.bl;clear hr1 rb
 go_upto_region 5 with (first
  |(go_at_call 22;refine (a6O a _ D1.out.bd.env (by omega) (by omega)).mono ?_;rintro e w2 ⟨rfl,hb2⟩;have D2:=a0b (D1.out.later hb2);clear hb2)
  |(go_at_call 21;refine (g1v D2.out TA.out (.a0k nmA (by decide) a) ⟨ha1,ha9⟩ rfl (c4w a)).mono ?_;rintro e w3 ⟨l1,a1,a2,a3,a4,n2,c1,c2,c3,c4,r1,col1,rfl,P1⟩;dsimp only[List.length_nil]))
 change Code.wp _ _ _ _ (w3.alloc (a5w 0 0 0 (.slice a1 l1.length c1) (.slice a2 n2 c2) (.slice a3 0 c3) (.slice a4 0 c4)));have R1:=a0b (a0p w3 (a5w 0 0 0 (.slice a1 l1.length c1) (.slice a2 n2 c2) (.slice a3 0 c3) (.slice a4 0 c4)));have D3:=a0b (P1.dg.later ((zr w3.heap.size w3).alloc (zq _) (a5w 0 0 0 (.slice a1 l1.length c1) (.slice a2 n2 c2) (.slice a3 0 c3) (.slice a4 0 c4))));have N1:=a0b (P1.dg.none (zq w3.heap.size));clear P1 D1 D2 ra;generalize w3.alloc (a5w 0 0 0 (.slice a1 l1.length c1) (.slice a2 n2 c2) (.slice a3 0 c3) (.slice a4 0 c4))=Z3 at R1 D3 ⊢;generalize w3.heap.size=B1 at R1 N1 ⊢;have rb:=(RO.out Z3 D3.out.bl).2
 go_upto_region 6 with (first
  |(go_at_call 22;refine (a6O b _ D3.out.bd.env (by omega) (by omega)).mono ?_;rintro e w4 ⟨rfl,hb4⟩;have D4:=a0b (D3.out.later hb4);have R4:=a0b ((hb4.block B1 (Array.getElem?_eq_some_iff.1 R1.out).1).trans R1.out);clear hb4)
  |(go_at_call 21;refine (g1v D4.out TB.out (.a0k nmC (by decide) b) ⟨hb1,hb9⟩ rfl (c4v a b)).mono ?_;rintro e w5 ⟨l2,b1,b2,b3,b4,m2,d1,d2,d3,d4,r2,col2,rfl,P2⟩;dsimp only[List.length_nil]))
 change Code.wp _ _ _ _ (w5.alloc (a5w 0 0 0 (.slice b1 l2.length d1) (.slice b2 m2 d2) (.slice b3 0 d3) (.slice b4 0 d4)));obtain⟨R5,N5⟩:=P2.st.still R4.out N1.out;have kb:=(zr w5.heap.size w5).alloc (zq _) (a5w 0 0 0 (.slice b1 l2.length d1) (.slice b2 m2 d2) (.slice b3 0 d3) (.slice b4 0 d4));have D6:=a0b (P2.dg.later kb);have e1:=(a2T ((kb.block B1 (Array.getElem?_eq_some_iff.1 R5).1).trans R5)).1;have e2:=(a2T (a0p w5 (a5w 0 0 0 (.slice b1 l2.length d1) (.slice b2 m2 d2) (.slice b3 0 d3) (.slice b4 0 d4)))).1;clear R5 N5 kb P2 rb R1 N1 D3 D4 R4 RO;generalize w5.alloc (a5w 0 0 0 (.slice b1 l2.length d1) (.slice b2 m2 d2) (.slice b3 0 d3) (.slice b4 0 d4))=Z6 at e1 e2 D6 ⊢;generalize w5.heap.size=B2 at e2 ⊢
 have HF:Hid (DG w Z6.drew p dk (a3Z a b) r2 col2):=by
  have k:=D6.out.later (a0q Z6);exact⟨k.bd,HX.out.1.trans (k.bl.mono HX.out.1.size),fun c hc=>k.lo c (zL hc HX.out.1.size)⟩
 clear D6 HX TA TB hs
 go_big_region
 go_wp2_with fail
 go_ret2;exact⟨p,dk,r2,col2,rfl,HF.out,HPP.out⟩
end Go.Proofs.YtfigmlfdnickmaaGreatDoor
