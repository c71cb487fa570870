import Derived.Test.YtfigmlfdnickmaaGreatDoorL17
import Derived.Deep.CutBlock
set_option maxRecDepth 100000
set_option maxHeartbeats 8000000
variable{ft kw name tt ut:ByteArray}{xs:List (Go.Proofs.YtfigmlfdnickmaaGreatDoor.Desk.Ent × Nat × Nat)}{es:List Go.Proofs.YtfigmlfdnickmaaGreatDoor.Desk.Ent}{F:List Nat}{O c d g n:Nat}{s:Go.Proofs.YtfigmlfdnickmaaGreatDoor.Desk.St}{v:Go.Value}{w w':Go.World}
namespace Go.Proofs.YtfigmlfdnickmaaGreatDoor
open Go.RowKit
open Desk (Ent St Rep a0g)
def g3x(k:Int)(name:ByteArray)(u:Int)(v:Value)(t:Int):Obj:=.cells #[.int .i64 0,.int .i64 k,.string name,.int .i64 u,v,.int .i64 t] 58 (0,0)
structure g3N(w:World)(g n:Nat)(kw:ByteArray)(k long:Int):Prop where
 ho:(kw.toList==[104,111,108,100])=decide (k=2)
 wa:(kw.toList==[119,97,105,116])=decide (k=3)
 lo:(k=1/\long=0)\/((k=2\/k=3)/\5<n/\∃ t:ByteArray,t.size<=160/\w.cell? ⟨g,5,none⟩=some (.string t)/\b4g t 1 7=long)
 l0:0<=long/\long<=1048320
theorem f2m(h:DD w d s xs F)(hg:0<=s.given/\s.given<=60)(hle:(s.es.length:Int)<=s.given)(hn:0<=s.now/\s.now<=1048320){k long:Int}(hk:g3N w g n kw k long)(hl:4<n)(z2:ut.size<=160)(z3:ft.size<=160)(z4:tt.size<=160)(hu:1<=b4g ut 1 7/\b4g ut 1 7<=9)(htl:0<=g2T tt/\g2T tt<=1048320)(h0:w.cell? ⟨g,0,none⟩=some (.string kw))(h1:w.cell? ⟨g,1,none⟩=some (.string name))(h2:w.cell? ⟨g,2,none⟩=some (.string ut))(h3:w.cell? ⟨g,3,none⟩=some (.string ft))(h4:w.cell? ⟨g,4,none⟩=some (.string tt)):
  Calls Tryz.prog 173 #[.pointer (some ⟨d,0,none⟩),.slice (some ⟨g,0,none⟩) n c] w (d1S w d F xs (a0g s (.enter k name (b4g ut 1 7) (g2T ft) (g2T tt) long))):=by
 have P0:=a0b ((KP.nil w).alloc a0f);have H:=a0b h;have HK:=a0b hk;have i0:(0:Int)<(n:Int):=by omega
 have i1:(1:Int)<(n:Int):=by omega
 have i2:(2:Int)<(n:Int):=by omega
 have i3:(3:Int)<(n:Int):=by omega
 have i4:(4:Int)<(n:Int):=by omega
 have y0:=a0a P0.out.bl h0;have y1:=a0a P0.out.bl h1;have y2:=a0a P0.out.bl h2;have y3:=a0a P0.out.bl h3;have y4:=a0a P0.out.bl h4;clear h hk
 go_enter Tryz.func173,Tryz.ntmps173
 go_upto_region 1 with fail
 change Code.wp _ _ _ _ (w.alloc a0f);generalize w.alloc a0f=X at *;have NM:=a0b (fun wx=>b0E ut 1 7 wx z2 (by omega) (by omega));generalize b4g ut 1 7=u at *
 go_cut [5] from 12 to 19 (fun v5 wx=>∃ b,v5=.pointer (some ⟨b,0,none⟩)/\KP w wx [(b,g3x 1 name u c7N 0),(w.heap.size,a0f)])
 case first =>
  have yA1:∀ o,(X.alloc o).cell? ⟨g,1,none⟩=some (.string name):=fun o=>a0a ((zr _ _).alloc (zq _) _) y1
  have yA2:∀ o,(X.alloc o).cell? ⟨g,2,none⟩=some (.string ut):=fun o=>a0a ((zr _ _).alloc (zq _) _) y2
  go_region_with (first
   |(go_at_call 126;refine (NM.out _).mono ?_;rintro e w4 ⟨rfl,hbf⟩;have PB:=a0b (((P0.out.alloc _).later (a0q _)).later hbf);have bz:=f9I hbf;have b0:=e0T bz;have b1:=e5p bz;have b2:=e0S bz;have b3:=e0R bz;have b4:=e0P bz;have b5:=e5o bz;have bf:=f0l bz;have kX:Below X.heap.size X w4:=a0j ((zr _ _).alloc (zq _) _).drew hbf (zq _);have y1':=a0a kX y1;clear hbf)
   |(go_at_call 126;refine (NM.out _).mono ?_;rintro e w4 ⟨rfl,hbf⟩;have kX:Below X.heap.size X w4:=a0j (a0q X) hbf (zq _);have y1':=a0a kX y1;have yB:∀ o,(w4.alloc o).cell? ⟨g,1,none⟩=some (.string name):=fun o=>a0a ((zr _ _).alloc (zq _) _) y1'))
  all_goals
   go_wp2_with fail
   go_meet
   first
    |(
     have PB:=PB.out.g0s (.int .i64 0) (.int .i64 1) (.string name) (.int .i64 u) c7N (.int .i64 0)
     exact⟨_,rfl,PB⟩)
    |exact⟨_,rfl,(P0.out.later kX).alloc _⟩
 case rest =>
  obtain⟨b,rfl,hP⟩:=hcut;have HP:=a0b hP;have y3:=a0a hP.bl h3;clear hP y0 y1 y2 y4 P0 NM
  go_wp2_with fail
  refine (d0T ft _ z3).mono ?_;rintro e w2 ⟨rfl,hb⟩;replace HP:=a0b (HP.out.later hb);have y4:=a0a HP.out.bl h4;clear hb y3
  go_wp2_with fail
  refine (d0T tt _ z4).mono ?_;rintro e w3 ⟨rfl,hb⟩;replace HP:=a0b (HP.out.later hb);clear hb y4;generalize g2T ft=fr at *;generalize g2T tt=til at *;obtain⟨T,hT⟩:∃ T,T=if k=1 then 0 else s.now+long:=⟨_,rfl⟩
  have HT:=a0b hT;clear hT;have hD:=H.out.later HP.out.bl;have n3:=hD.rd.c3;have HD:=a0b hD;clear hD;have y0:=a0a HP.out.bl h0;have b1:=HP.out.hc 1 rfl;have b5:=HP.out.hc 5 rfl;have bf:=HP.out.hf;have hl0:=HK.out.l0;have k2:=HK.out.ho;have k3:=HK.out.wa;have c0:Hid (0<=til/\til<=1048320):=htl;have HE:Hid (∃ er,er=Desk.a1M s k name u fr til long):=⟨_,rfl⟩;obtain⟨er,her⟩:=HE.out;have HER:=a0b her;clear her HE;obtain⟨NL,hNL⟩:∃ NL,NL=s.now+long:=⟨_,rfl⟩;have HNL:=a0b hNL;have ENT:Hid (er=if Desk.a0S s.ts name u≠0 then Desk.a0S s.ts name u else if til<=fr\/1048320<NL then 6 else if s.given=60 then 5 else if k=3 then (if Desk.a1Y s.es=6 then 5 else 0) else if Desk.a1e s.ts s.es name u [(fr,til)] then 0 else 8):=by rw[hNL];exact HER.out
  have HDO:Hid ((er≠0->a0g s (.enter k name u fr til long)=(s,⟨er,0,0,[],[],[],[]⟩))/\(er=0->a0g s (.enter k name u fr til long)=Desk.a2t s ⟨0,k,name,u,[(fr,til)],T⟩)):=by
   have e2:=HER.out;have e3:=HT.out;refine⟨fun h=>?_,fun h=>?_⟩
   ·simp only[a0g,<- e2,h,ne_eq,not_false_eq_true,if_true];rfl
   ·simp only[a0g,<- e2,h,ne_eq,not_true_eq_false,if_false];rw[e3];rfl
  have ENTG:Hid (er=0->s.given≠60):=by
   intro e1 e2;have:=ENT.out;rw[e1,e2] at this
   split at this
   ·omega
   ·split at this <;> simp at this
  clear hNL HER;rcases HK.out.lo with ⟨hkk,rfl⟩|⟨hkk,h5,t,ht,c5,hlo⟩
  case' inl =>
   have PK:Hid (KP w w3 [(b,g3x k name u c7N T),(w.heap.size,a0f)]):=by rw[HT.out,if_pos hkk,hkk];exact HP.out
   rw[hkk] at k2 k3;simp only[show ((1:Int)=2)=False from by simp,show ((1:Int)=3)=False from by simp,decide_false] at k2 k3;clear HP b5 n3 HD
   go_upto_region 13 with fail
   generalize w3=Z at *;clear b1 bf
  case' inr =>
   have hkn:k≠1:=by omega
   have i5:(5:Int)<(n:Int):=by omega
   have hTn:Hid (T=s.now+long):=by show _=_;rw[HT.out,if_neg hkn]
   have NM:=a0b (fun wx=>b0E t 1 7 wx ht (by omega) (by omega));rw[hlo] at NM;have PK:=a0b (HP.out.put 1 (.int .i64 k));have c5':=a0a PK.out.bl c5;clear c5 HP HD n3 b5 hlo;rcases hkk with hkk|hkk
   all_goals
    rw[hkk] at k2 k3 PK c5';simp only[show ((3:Int)=2)=False from by simp,show ((2:Int)=3)=False from by simp,decide_false,decide_true] at k2 k3
    go_upto_region 11 with fail
    generalize w3.setCell _ _=Z0 at *
    go_wp2_with fail
    refine (NM.out _).mono ?_;rintro e w5 ⟨rfl,hb⟩;replace PK:=a0b (PK.out.later hb);have n3:=(H.out.later PK.out.bl).rd.c3;have b5:=PK.out.hc 5 rfl;have bf:=PK.out.hf;clear hb
    go_upto_region 13 with fail
    replace PK:Hid (KP w (w5.setCell ⟨b,5,none⟩ (.int .i64 (s.now+long))) [(b,g3x k name u c7N T),(w.heap.size,a0f)]):=by rw[hkk,hTn.out];exact PK.out.put 5 _
    clear b5 bf n3 b1;generalize w5.setCell _ _=Z at *
  all_goals
   clear hkk;obtain⟨vN,hvN⟩:∃ v,v=c7N:=⟨_,rfl⟩;have ON:Hid (Z.ownsRow Z.heap.size 60 2 vN ([]:List (Int × Int)).length (([]:List (Int × Int)).flatMap d0k)/\vN.ownBlock=none):=by rw[hvN];exact⟨World.ownsRow_nil Z Z.heap.size _ _,rfl⟩
   rw[<- hvN] at PK;clear hvN;have b4:=PK.out.hc 4 rfl;have bf:=PK.out.hf 4;have hZ:=PK.out.bl.size;have hbZ:b<Z.heap.size:=PK.out.lt (List.mem_cons_self ..);have hQZ:w.heap.size<Z.heap.size:=PK.out.lt (q:=(w.heap.size,a0f)) (by simp)
   go_wp2_with (first|(at_builtin;refine g2l rfl _ _ rfl ON.out.1 fr til rfl rfl (by simp) (zq _) ?_;intro gs cs w6 ho6 ko6;have kb6:Below Z.heap.size Z w6:=(by rw[ON.out.2] at ko6;exact Off.blw ko6);have b4:=a0a kb6 b4;have bf:=(a0b ((PK.out.later kb6).hf 4)).out;have b2:=(PK.out.later kb6).hc 2 rfl;have b3:=(PK.out.later kb6).hc 3 rfl))
   replace PK:Hid (KP w (w6.setCell ⟨b,4,none⟩ (.slice (some ⟨gs,0,none⟩) 1 cs)) [(b,g3x k name u (.slice (some ⟨gs,0,none⟩) 1 cs) T),(w.heap.size,a0f)]):=(PK.out.later kb6).put 4 _;have hgs:Z.heap.size<=gs:=d0G ho6 rfl;have hgs2:gs<w6.heap.size:=c7O ho6 rfl;have RS:Hid (RSL (w6.setCell ⟨b,4,none⟩ (.slice (some ⟨gs,0,none⟩) 1 cs)) gs [(fr,til)]):=(e9c ho6).2.off (Off.set0 ..) (by simp;omega);have hz6:(w6.setCell ⟨b,4,none⟩ (.slice (some ⟨gs,0,none⟩) 1 cs)).heap.size=w6.heap.size:=by simp
   clear b4 bf ho6 ko6 kb6 b2 b3;rw[<- hz6] at hgs2;clear hz6;generalize w6.setCell ⟨b,4,none⟩ _=Y at *;have DY:=a0b (H.out.later PK.out.bl);obtain⟨_,b1,b2,b3,b4,_⟩:=PK.out.six;have n2:=DY.out.rd.c2;have n3:=DY.out.rd.c3;have AK:=a0b (DY.out.asked name u);have WA:=a0b DY.out.waiting;have FT:=a0b (DY.out.fits (u:=u) (cb:=cs) name RS.out (by simp) (by omega) hu.2);refine AK.out.mono ?_;rintro e w7 ⟨rfl,rfl⟩;clear AK;generalize Desk.a0S s.ts name u=an at *;generalize Desk.a1Y s.es=wn at *;generalize Desk.a1e s.ts s.es name u [(fr,til)]=fb at *
   go_upto_block 1 with fail
   go_cut [9,10,11] from 65 to 104 (fun v9 _ _ wx=>v9=.int .i64 er/\KP w wx [(b,g3x k name u (.slice (some ⟨gs,0,none⟩) 1 cs) T),(w.heap.size,a0f)]/\RSL wx gs [(fr,til)]/\gs<wx.heap.size)
   case first =>
    by_cases q1:an=0
    ·subst q1
     by_cases q2:til<=fr
     ·have e1:er=6:=by rw[ENT.out];simp[q2]
      go_wp2_with fail
      go_meet
      exact⟨by rw[e1],PK.out,RS.out,hgs2⟩
     ·by_cases q3:1048320<NL
      ·have e1:er=6:=by rw[ENT.out];simp[q3]
       rw[HNL.out] at q3
       try simp only[Int.add_zero] at q3
       try (exfalso;omega)
       all_goals
        go_wp2_with fail
        go_meet
        exact⟨by rw[e1],PK.out,RS.out,hgs2⟩
      ·rw[if_neg (by simp),if_neg (by simp only[not_or];exact⟨q2,q3⟩)] at ENT;rw[HNL.out] at q3
       try simp only[Int.add_zero] at q3
       by_cases q4:s.given=60
       ·have e1:er=5:=by rw[ENT.out,if_pos q4]
        have q4':(s.given==60)=true:=by simpa using q4
        go_wp2_with fail
        go_meet
        exact⟨by rw[e1],PK.out,RS.out,hgs2⟩
       ·rw[if_neg q4] at ENT;have q4':(s.given==60)=false:=by simpa using q4
        by_cases q5:k=3
        ·skip
         all_goals
          rw[if_pos q5] at ENT;have q5':(k==3)=true:=by simpa using q5
          by_cases q6:wn=6
          ·have e1:er=5:=by rw[ENT.out,if_pos q6]
           have q6':(wn==6)=true:=by simpa using q6
           go_wp2_with fail
           refine WA.out.mono ?_;rintro e w8 ⟨rfl,rfl⟩
           go_wp2_with fail
           go_meet
           exact⟨by rw[e1],PK.out,RS.out,hgs2⟩
          ·have e1:er=0:=by rw[ENT.out,if_neg q6]
           have q6':(wn==6)=false:=by simpa using q6
           go_wp2_with fail
           refine WA.out.mono ?_;rintro e w8 ⟨rfl,rfl⟩
           go_wp2_with fail
           go_meet
           exact⟨by rw[e1],PK.out,RS.out,hgs2⟩
        ·skip
         all_goals
          rw[if_neg q5] at ENT;have q5':(k==3)=false:=by simpa using q5
          go_wp2_with fail
          refine FT.out.mono ?_;rintro e w8 ⟨rfl,hb8⟩;have L8:=a0b (zA (PK.out.later hb8) (zA (RS.out.later hb8) (zL hgs2 hb8.size)));clear hb8
          cases fb
          ·have e1:er=8:=by rw[ENT.out];rfl
           go_wp2_with fail
           go_meet
           exact⟨by rw[e1],L8.out⟩
          ·have e1:er=0:=by rw[ENT.out];rfl
           go_wp2_with fail
           go_meet
           exact⟨by rw[e1],L8.out⟩
    ·have e1:er=an:=by rw[ENT.out,if_pos q1]
     have q1':(an != 0)=true:=by simpa using q1
     go_wp2_with fail
     go_meet
     exact⟨by rw[e1],PK.out,RS.out,hgs2⟩
   case rest =>
    obtain⟨rfl,hP,hR,hg3⟩:=hcut;have DC:=a0b (H.out.later hP.bl);have Q1:=a0b (Q7.of (hP.kb (w.heap.size,a0f) (by simp)));have HP:=a0b (zA hP (zA hR hg3));obtain⟨x0,x1,x2,x3,x4,x5⟩:=hP.six;clear hP hR hg3 b1 b2 b3 b4 n2 n3 WA FT ENT
    by_cases he:er=0
    ·subst he;have E9:=a0b (HDO.out.2 rfl)
     have hg59:Hid (s.es.length<60):=by
      show _<_;have:=ENTG.out rfl;omega
     have JN:Hid (Calls Tryz.prog 232 #[.pointer (some ⟨d,0,none⟩),.agg #[.int .i64 0,.int .i64 k,.string name,.int .i64 u,.slice (some ⟨gs,0,none⟩) 1 cs,.int .i64 T]] wc fun e w'=>e=.returned (e3T 0 (s.given+1))/\g3V wc d s.ts (xs++[(⟨s.given+1,k,name,u,[(fr,til)],T⟩,gs,cs)]) (s.given+1) s.now F w'):=(f5s d s.ts xs s.given s.now F (⟨0,k,name,u,[(fr,til)],T⟩,gs,cs) wc DC.out.rd HP.out.2.1 (fun e=>by have:=H.out.lt gs e;omega) HP.out.2.2 DC.out.lt (by have:=H.out.len;have:=H.out.el;omega) hg.1 (by omega))
     go_wp2_with fail
     refine JN.out.mono ?_;rintro e w8 ⟨rfl,hj⟩;obtain⟨F',hJ,hF',hO⟩:=DC.out.a5d (x:=(⟨0,k,name,u,[(fr,til)],T⟩,gs,cs)) ⟨hu.1,hu.2,by simp,by simp,by simp;omega⟩ hg59.out hj;have hQF:w.heap.size ∉ F:=fun e=>by have:=H.out.lt _ e;omega
     have hQ8:=hO.block w.heap.size (World.block_lt_of_cell? _ _ Q1.out.q0) hQF;have hwc:=HP.out.1.bl.size;have hQc:w.heap.size<wc.heap.size:=World.block_lt_of_cell? _ _ Q1.out.q0
     have HF:Hid (d1S w d F xs (Desk.a2t s ⟨0,k,name,u,[(fr,til)],T⟩) (.returned (a0s 0 0 (s.given+1) c7N c7N c7N c7N)) (a2w w8 w.heap.size (.int .i64 0) (.int .i64 0) (.int .i64 (s.given+1)) c7N c7N c7N c7N)):=by
      refine hJ.put7 (fun x hx=>(hF' x hx).imp id (fun e=>by omega)) ((Off.of_below HP.out.1.bl).trans hO) (zq _) (fun e=>?_) (fun x hx e=>?_) (fun x hx=>?_) 0 (s.given+1) _ _ _ _ _ _ _
      ·rcases hF' _ e with e|e
       ·exact hQF e
       ·omega
      ·rcases List.mem_append.1 hx with hx|hx
       ·have:=(H.out.rd.sp x hx).2.2;omega
       ·simp only[List.mem_singleton] at hx;subst hx;simp only at e;omega
      ·rcases List.mem_append.1 hx with hx|hx
       ·exact .inl ⟨x,hx,rfl⟩
       ·simp only[List.mem_singleton] at hx;subst hx;exact .inr (by simp only;omega)
     obtain⟨q0,q1,q2,q3,q4,q5,q6,fq⟩:=Q1.out.later hQ8;simp only[e3T];clear hJ hF' hO hj JN
     go_wp2_with fail
     exact bodyPost_ret (v:=a0s 0 0 (s.given+1) c7N c7N c7N c7N) (by simp[results,Tryz.results173,go_sem,a0s,c7N,q0,q1,q2,q3,q4,q5,q6]) rfl (by rw[E9.out];exact HF.out)
    ·have he':(er != 0)=true:=by simpa using he
     have HF:Hid (d1S w d F xs (s,⟨er,0,0,[],[],[],[]⟩) (.returned (a0s er 0 0 c7N c7N c7N c7N)) (a2w wc w.heap.size (.int .i64 er) (.int .i64 0) (.int .i64 0) c7N c7N c7N c7N)):=H.out.said HP.out.1.bl (zq _) er 0 (.int .i64 er) (.int .i64 0) (.int .i64 0) c7N c7N c7N c7N;have E9:=a0b (HDO.out.1 he);obtain⟨q0,q1,q2,q3,q4,q5,q6,fq⟩:=Q1.out;clear he
     go_wp2_with fail
     exact bodyPost_ret (v:=a0s er 0 0 c7N c7N c7N c7N) (by simp[results,Tryz.results173,go_sem,a0s,c7N,q0,q1,q2,q3,q4,q5,q6]) rfl (by rw[E9.out];exact HF.out)
theorem e0h:∀ (es:List Ent)(id i:Int),0<=i->(Desk.d0u id es i=-1/\Desk.a5S id es=none)\/∃ k:Nat,∃ h:k<es.length,Desk.d0u id es i=i+k/\Desk.a5S id es=some es[k]/\es[k].id=id
 |[],id,i,_=>.inl ⟨rfl,rfl⟩
 |e :: r,id,i,h0=>by
  unfold Desk.d0u Desk.a5S
  by_cases h:e.id=id
  ·refine .inr ⟨0,by simp,?_⟩;simp[h]
  ·rcases e0h r id (i+1) (by omega) with ⟨h1,h2⟩|⟨k,hk,h1,h2,h3⟩
   ·refine .inl ?_;rw[if_neg h];simp only[List.find?_cons,h,decide_false];exact⟨h1,h2⟩
   ·refine .inr ⟨k+1,by simpa using hk,?_⟩;rw[if_neg h];simp only[List.find?_cons,h,decide_false];exact⟨by rw[h1];push_cast;omega,h2,h3⟩
theorem f2B(h:Desk.Ids es){k:Nat}(hk:k<es.length):es.set k (Desk.a0Q es[k])=Desk.a0C es[k].id es:=by
 unfold Desk.a0C;apply List.ext_getElem (by simp);intro i h1 h2;rw[List.getElem_set,List.getElem_map];simp only[List.length_set] at h1
 split
 ·rename_i e;subst e;simp
 ·rename_i e
  rw[if_neg];intro e2;have:=(List.pairwise_iff_getElem.1 h);rcases Nat.lt_or_gt_of_ne e with e3|e3
  ·have:=this k i (by simpa using hk) (by simpa using h1) e3;simp only[List.getElem_map] at this;omega
  ·have:=this i k (by simpa using h1) (by simpa using hk) e3;simp only[List.getElem_map] at this;omega
theorem g1O{id:Int}:(d2z id xs).map (·.1)=Desk.kept id (xs.map (·.1)):=by
 unfold d2z Desk.kept;rw[List.filter_map]
 congr 1
def f4s(b:Bool)(id:Int):Desk.a7U:=if b then .cancel id else .confirm id
theorem f8E(h:DD w d s xs F)(hid:Desk.Ids s.es)(b:Bool){t:ByteArray}(hk:(kw.toList==[99,97,110,99,101,108])=b)(ht:t.size<=160)(hn:1<n)(c0:w.cell? ⟨g,0,none⟩=some (.string kw))(c1:w.cell? ⟨g,1,none⟩=some (.string t)):
  Calls Tryz.prog 175 #[.pointer (some ⟨d,0,none⟩),.slice (some ⟨g,0,none⟩) n c] w (d1S w d F xs (a0g s (f4s b (b4g t 1 7)))):=by
 have hX:Below w.heap.size w (w.alloc a0f):=(zr _ _).alloc (zq _) _;have hQ:=a0p w a0f;have H:=a0b h;have HX:=a0b (zA hX hQ);have x0:=a0a hX c0;have x1:=a0a hX c1;have hn':(1:Int)<(n:Int):=by omega
 have hn0:(0:Int)<(n:Int):=by omega
 clear hX hQ c0 c1 h
 go_enter Tryz.func175,Tryz.ntmps175
 go_upto_region 1 with fail
 change Code.wp _ _ _ _ (w.alloc a0f);generalize w.alloc a0f=X at *
 go_wp2_with fail
 refine (b0E t 1 7 X ht (by omega) (by omega)).mono ?_;rintro e w1 ⟨rfl,hb1⟩;have B1:=a0b (a0j HX.out.1 hb1 (zq _));have D1:=a0b (H.out.later B1.out);have PL:=a0b (D1.out.place (b4g t 1 7));have PF:=a0b (e0h s.es (b4g t 1 7) 0 (Int.le_refl _));have x0:=a0a hb1 x0;have Q1:=a0b ((Q7.of HX.out.2).later (hb1.block _ (Array.getElem?_eq_some_iff.1 HX.out.2).1));clear hb1 HX x1;generalize b4g t 1 7=id at *
 go_wp2_with fail
 refine PL.out.mono ?_;rintro e w2 ⟨rfl,rfl⟩;clear PL;obtain⟨q0,q1,q2,q3,q4,q5,q6,fq⟩:=Q1.out;rcases PF.out with ⟨e1,e2⟩|⟨k,hkl,e1,e2,e3⟩
 ·have hp:Desk.d0u id s.es 0<0:=by omega
  have HF:Hid (d1S w d F xs (a0g s (f4s b id)) (.returned (a0s 9 0 0 c7N c7N c7N c7N)) (a2w w2 w.heap.size (.int .i64 9) (.int .i64 0) (.int .i64 0) c7N c7N c7N c7N)):=by
   have:=H.out.said B1.out (zq _) 9 0 (.int .i64 9) (.int .i64 0) (.int .i64 0) c7N c7N c7N c7N;show d1S w d F xs _ _ _
   cases b <;> (simp only[f4s,a0g,e2,Bool.false_eq_true,if_true,if_false];exact this)
  clear e1 e2 PF;generalize Desk.d0u id s.es 0=pl at *
  go_wp2_with fail
  exact bodyPost_ret (v:=a0s 9 0 0 c7N c7N c7N c7N) (by simp[results,Tryz.results175,go_sem,a0s,c7N,q0,q1,q2,q3,q4,q5,q6]) rfl HF.out
 ·rw[Int.zero_add] at e1;rw[e1];have hp:¬ ((k:Int)<0):=by omega
  have hkx:k<xs.length:=by have:=H.out.len;omega
  have hil:(k:Int)<(s.es.length:Int):=by omega
  have hpk:(0:Int)<=(k:Int):=by omega
  clear e1 PF;obtain⟨a,cap,E,hr⟩:=D1.out.er;obtain rfl:=hr.a k hkx;have cc:=hr.c;rw[H.out.len] at cc;have r1:=(hr.r k hkx).c1;have r5:=(hr.r k hkx).c5
  have hx:xs[k].1=s.es[k]:=by
   have e:(xs.map (·.1))[k]?=some s.es[k]:=by rw[H.out.es];simp[hkl]
   rw[List.getElem?_eq_getElem (by simpa using hkx),Option.some.injEq,List.getElem_map] at e;exact e
  have fE:=fun o=>hr.f o (by omega)
  have HR:=a0b hr;have HKX:=a0b (zA e2 (zA e3 hx));clear e2 e3 hr
  cases b
  ·rw[hx] at r1 r5
   by_cases hk2:s.es[k].kind=2
   ·have hq:(s.es[k].kind != 2)=false:=by simp[hk2]
    have bk:=D1.out.a0C HR.out hkx (es':=Desk.a0C id s.es) (by rw[hx,f2B hid hkl,HKX.out.2.1]);have hEF:=bk.2.1;have hEd:=bk.2.2;have kE:Off F w2 ((w2.setCell ⟨E,k*6+1,none⟩ (.int .i64 1)).setCell ⟨E,k*6+5,none⟩ (.int .i64 0)):=((Off.refl F w2).setCell (.inl hEF) _ _).setCell (.inl hEF) _ _;have hEQ:E≠w.heap.size:=by have:=H.out.lt E hEF;omega
    have hw:Off F w ((w2.setCell ⟨E,k*6+1,none⟩ (.int .i64 1)).setCell ⟨E,k*6+5,none⟩ (.int .i64 0)):=(Off.of_below B1.out).trans kE
    have HD:Hid (a0g s (f4s false id)=({ s with es:=Desk.a0C id s.es },⟨0,0,0,[],[],[],[]⟩)):=by
     show _=_;simp[f4s,a0g,HKX.out.1,hk2,Rep.num]
    have hQF:w.heap.size ∉ F:=fun e=>by have:=H.out.lt _ e;omega
    have Q2:=a0b (Q1.out.later (kE.block _ (World.block_lt_of_cell? _ _ q0) hQF));have HB:=a0b (zA bk.1 hw);clear bk kE hw hk2 q0 q1 q2 q3 q4 q5 q6 fq
    go_upto_region 12 with fail
    generalize (World.setCell (World.setCell w2 _ _) _ _)=Z at *
    have HF:Hid (d1S w d F xs (a0g s (f4s false id)) (.returned (a0s 0 0 0 c7N c7N c7N c7N)) (a2w Z w.heap.size (.int .i64 0) (.int .i64 0) (.int .i64 0) c7N c7N c7N c7N)):=by
     show d1S w d F xs _ _ _;rw[HD.out];refine HB.out.1.put7 (fun _ hx=>.inl hx) HB.out.2 (zq _) hQF (fun x hx e=>?_) (fun x hx=>.inl ?_) 0 0 _ _ _ _ _ _ _
     rotate_left
     ·rcases List.mem_or_eq_of_mem_set hx with hx|rfl
      ·exact⟨x,hx,rfl⟩
      ·exact⟨xs[k],List.getElem_mem hkx,rfl⟩
     have:x.2.1<w.heap.size:=by
      rcases List.mem_or_eq_of_mem_set hx with hx|rfl
      ·exact (H.out.rd.sp x hx).2.2
      ·exact (H.out.rd.sp xs[k] (zg hkx)).2.2
     omega
    obtain⟨q0,q1,q2,q3,q4,q5,q6,fq⟩:=Q2.out;clear HB Q2
    go_wp2_with fail
    exact bodyPost_ret (v:=a0s 0 0 0 c7N c7N c7N c7N) (by simp[results,Tryz.results175,go_sem,a0s,c7N,q0,q1,q2,q3,q4,q5,q6]) rfl HF.out
   ·have hq:(s.es[k].kind != 2)=true:=by simp[hk2]
    have HF:Hid (d1S w d F xs (a0g s (f4s false id)) (.returned (a0s 10 0 0 c7N c7N c7N c7N)) (a2w w2 w.heap.size (.int .i64 10) (.int .i64 0) (.int .i64 0) c7N c7N c7N c7N)):=by
     have:=H.out.said B1.out (zq _) 10 0 (.int .i64 10) (.int .i64 0) (.int .i64 0) c7N c7N c7N c7N;show d1S w d F xs _ _ _;simp only[f4s,a0g,HKX.out.1,Bool.false_eq_true,if_false,hk2,ne_eq,not_false_eq_true,if_true];exact this
    clear hk2
    go_wp2_with fail
    exact bodyPost_ret (v:=a0s 10 0 0 c7N c7N c7N c7N) (by simp[results,Tryz.results175,go_sem,a0s,c7N,q0,q1,q2,q3,q4,q5,q6]) rfl HF.out
  ·have WO:=a0b (D1.out.without id)
   have HD:Hid (a0g s (f4s true id)=({ s with es:=Desk.kept id s.es },⟨0,0,0,[],[],[],[]⟩)):=by
    show _=_;simp[f4s,a0g,HKX.out.1,Rep.num]
   clear r1 r5 cc fE
   go_wp2_with fail
   refine WO.out.mono ?_;rintro e w3 ⟨vr,rfl,ho,hb3⟩;obtain⟨av,cv,hvr⟩:=c9y ho;have FR:=a0b (D1.out.fresh ho (zq _) hb3 (fun y hy=>(List.mem_filter.1 hy).1) (List.length_filter_le ..) (g1O.trans (by rw[H.out.es])));have D3:=D1.out.later hb3;obtain⟨v2,y1,_⟩:=D3.rd.ev;have fy:=D3.rd.fz 1;have hdQ:d≠w.heap.size:=by have:=H.out.lt d H.out.rd.dF;omega
   have kd:Off [d] w3 (w3.setCell ⟨d,1,none⟩ vr):=Off.set0 ..;have Q3:=a0b ((Q1.out.later (hb3.block _ (World.block_lt_of_cell? _ _ q0))).later (kd.block _ (zL (World.block_lt_of_cell? _ _ q0) hb3.size) (by simp;exact fun e=>hdQ e.symm)));have HO:=a0b (zA (((Off.of_below (F:=F) B1.out).trans (Off.of_below hb3)).setCell (.inl H.out.rd.dF) 1 vr) ho);have hz:=B1.out.size;have hq0:=World.block_lt_of_cell? _ _ q0;have hq0:w.heap.size<w2.heap.size:=hq0;clear ho hb3 D3 kd;rw[hvr] at FR Q3 HO ⊢;clear hvr q0 q1 q2 q3 q4 q5 q6 fq
   go_upto_region 12 with fail
   generalize (World.setCell w3 ⟨d,1,none⟩ _)=Z at *
   have HF:Hid (d1S w d F xs (a0g s (f4s true id)) (.returned (a0s 0 0 0 c7N c7N c7N c7N)) (a2w Z w.heap.size (.int .i64 0) (.int .i64 0) (.int .i64 0) c7N c7N c7N c7N)):=by
    show d1S w d F xs _ _ _;rw[HD.out];have hv:∀ b,(Value.slice av (d2z id xs).length cv).ownBlock=some b->w2.heap.size<=b:=fun b hb=>d0G HO.out.2 hb
    refine FR.out.put7 (fun x hx=>?_) HO.out.1 (zq _) (fun hx=>?_) (fun x hx e=>?_) (fun x hx=>.inl ⟨x,(List.mem_filter.1 hx).1,rfl⟩) 0 0 _ _ _ _ _ _ _
    ·rcases List.mem_append.1 hx with e|e
     ·have:=hv x (by simpa using e);exact .inr (by omega)
     ·exact .inl e
    ·rcases List.mem_append.1 hx with e|e
     ·have:=hv _ (by simpa using e);omega
     ·have:=H.out.lt _ e;omega
    ·have:=(H.out.rd.sp x ((List.mem_filter.1 hx).1)).2.2;omega
   obtain⟨q0,q1,q2,q3,q4,q5,q6,fq⟩:=Q3.out;clear FR Q3 HO
   go_wp2_with fail
   exact bodyPost_ret (v:=a0s 0 0 0 c7N c7N c7N c7N) (by simp[results,Tryz.results175,go_sem,a0s,c7N,q0,q1,q2,q3,q4,q5,q6]) rfl HF.out
open Desk (Ent St Rep a0g b7U a2E)
theorem f4a{α:Type}(fs:List Int)(ys:List α)(hl:fs.length=ys.length):∃ zs:List α,zs.length=ys.length/\∀ (i:Nat)(hi:i<ys.length),zs[Rank.e3Z fs i]?=some ys[i]:=by
 have hr:∀ p:Fin ys.length,∃ i,i<ys.length/\Rank.e3Z fs i=p.1:=fun p=>by
  obtain⟨i,h1,h2⟩:=Rank.d5F fs (k:=p.1) (by rw[hl];exact p.2);exact⟨i,by omega,h2⟩
 refine⟨List.ofFn fun p:Fin ys.length=>ys[Classical.choose (hr p)]'(Classical.choose_spec (hr p)).1,by simp,fun i hi=>?_⟩;have hk:Rank.e3Z fs i<ys.length:=by rw[<- hl];exact Rank.e6F fs (by omega)
 rw[List.getElem?_ofFn,dif_pos hk,Option.some.injEq];have h2:=Classical.choose_spec (hr ⟨Rank.e3Z fs i,hk⟩);have e:=Rank.e1x (fs:=fs) (by rw[hl];exact h2.1) (by omega) h2.2;simp only[e]
def g0s(cs:Array Value)(p:Nat)(a b c d e f:Value):Array Value:=(((((cs.setIfInBounds (p*6) a).setIfInBounds (p*6+1) b).setIfInBounds (p*6+2) c).setIfInBounds (p*6+3) d).setIfInBounds (p*6+4) e).setIfInBounds (p*6+5) f
theorem f8r(cs:Array Value)(p:Nat)(a b c d e f:Value)(hp:p*6+5<cs.size)(q j:Nat)(hj:j<6):(g0s cs p a b c d e f)[q*6+j]?=if q=p then [a,b,c,d,e,f][j]? else cs[q*6+j]?:=by
 unfold g0s
 by_cases hq:q=p
 ·subst hq;rw[if_pos rfl];rcases (show j=0\/j=1\/j=2\/j=3\/j=4\/j=5 by omega) with rfl|rfl|rfl|rfl|rfl|rfl
  all_goals
   simp only[Array.getElem?_setIfInBounds,Array.size_setIfInBounds];simp
   try omega
 ·rw[if_neg hq];simp only[Array.getElem?_setIfInBounds,Array.size_setIfInBounds];rw[if_neg (by omega),if_neg (by omega),if_neg (by omega),if_neg (by omega),if_neg (by omega),if_neg (by omega)]
theorem f4b(cs:Array Value)(p:Nat)(a b c d e f:Value):(g0s cs p a b c d e f).size=cs.size:=by simp[g0s]
theorem f4c{W:World}{cs:Array Value}{t:TypeId}{m:Nat × Nat}(h:W.heap[O]?=some (.cells cs t m))(p:Nat)(a b c d e f:Value):((((((W.setCell ⟨O,p*6,none⟩ a).setCell ⟨O,p*6+1,none⟩ b).setCell ⟨O,p*6+2,none⟩ c).setCell ⟨O,p*6+3,none⟩ d).setCell ⟨O,p*6+4,none⟩ e).setCell ⟨O,p*6+5,none⟩ f).heap[O]?=some (.cells (g0s cs p a b c d e f) t m) :=
 d1X (d1X (d1X (d1X (d1X (d1X h a) b) c) d) e) f
theorem d9z.off{wr wx:World}{ys:List (Ent × Nat × Nat)}(h:d9z w wr v ys)(k:Off [O] wr wx)(hO:wr.heap.size<=O):d9z w wx v ys:=by
 refine⟨a1i h.own k (fun b hb e=>by have:=c7O h.own hb;simp at e;omega),fun y hy=>?_,⟨k.os.trans h.bw.os,k.tape.trans h.bw.tape,k.output.trans h.bw.output,Nat.le_trans h.bw.size k.size,fun b hb=>(k.block b (zL hb h.bw.size) (fun e=>by have:=h.bw.size;simp at e;omega)).trans (h.bw.block b hb)⟩⟩;obtain⟨y1,y2,y3,y4⟩:=h.sl y hy;exact⟨y1.off k (by simp;omega),y2,Nat.lt_of_lt_of_le y3 k.size,y4⟩
theorem e4t(h:DD w d s xs F)(hid:Desk.Ids s.es)(name:ByteArray)(fr til:Int):
  Calls Tryz.prog 235 #[.pointer (some ⟨d,0,none⟩),.string name,.int .i64 fr,.int .i64 til] w fun e w'=>∃ v,e=.returned v/\e2K w v (Desk.a2x name fr til s.es) w':=by
 obtain⟨i0,hi0,hz0,hz1,hz2⟩:=info_parts e2i;have H:=a0b h;have hlen:=h.len;have hel:=h.el;clear h
 go_enter Tryz.func235,Tryz.ntmps235
 go_wp2_with fail
 go_loopw [9,10,11,12] (fun v i _ _ wx=>∃ k:Nat,k<=xs.length/\i=.int .i64 k/\∃ ys,d9z w wx v ys/\ys.length<=k/\(∀ y∈ys,EB y.1)/\ys.map (·.1)=((xs.take k).map (·.1)).filter (b7U name fr til)) (fun _ i _ _ _=>xs.length-(intOf i).toNat)
 case atStart=>exact⟨0,Nat.zero_le _,rfl,[],⟨World.ownsRow_nil _ _ _ _,by simp,Below.refl _ _⟩,by simp,by simp,by simp⟩
 case round =>
  obtain⟨k,hk,rfl,ys,hR,hyl,hye,hys⟩:=hrel;have hD:=H.out.later hR.bw;obtain⟨a,cap,E,hr⟩:=hD.er;have cc:=hr.c;have HR:=a0b (zA hR (zA hys hye))
  by_cases hlt:k<xs.length
  ·obtain rfl:=hr.a k hlt;have r0:=hr.r k hlt;have c0:=r0.c0;have c1:=r0.c1;have c2:=r0.c2;have c3:=r0.c3;have c4:=r0.c4;have c5:=r0.c5;have hi:(k:Int)<(xs.length:Int):=by omega
   have heb:=H.out.en xs[k].1 (H.out.es ▸ List.mem_map.2 ⟨_,List.getElem_mem hlt,rfl⟩);have hX:Below wr.heap.size wr (wr.alloc (f5U xs[k])):=(zr _ _).alloc (zq _) _;have hE:(wr.alloc (f5U xs[k])).heap[wr.heap.size]?=some (f5U xs[k]):=a0p _ _
   have ht:(xs.take (k+1)).map (·.1)=(xs.take k).map (·.1)++[xs[k].1]:=by rw[List.take_succ_eq_append_getElem hlt,List.map_append];rfl
   have HT:=a0b ht;have RX:=a0b (zA (hR.later hX) (zA (r0.sl.later hX) (zA heb hX)));have hsl:0<xs[k].1.a0e.length/\xs[k].1.a0e.length<=1000:=⟨List.length_pos_iff.2 heb.s0,by have:=heb.sl;omega⟩;have FA:=a0b (d8X xs[k] fr til _ RX.out.2.1 (by omega))
   have hst:b7U name fr til xs[k].1=false->ys.map (·.1)=((xs.take (k+1)).map (·.1)).filter (b7U name fr til):=fun h=>by rw[ht,List.filter_append,hys];simp[h]
   have ST:=a0b hst
   go_upto_region 6 with fail
   change Code.wp _ _ _ _ (wr.alloc (f5U xs[k]));have f0:=e0T hE;have f1:=e5p hE;have f2:=e0S hE;have f3:=e0R hE;have f4:=e0P hE;have f5:=e5o hE;have hN:wr.heap.size<(wr.alloc (f5U xs[k])).heap.size:=by simp
   clear hR hys hye hD hr r0 ht heb hX c0 c1 c2 c3 c4 c5 cc hst;generalize wr.alloc (f5U xs[k])=X at *
   go_wp2_with fail
   refine FA.out.mono ?_;rintro e w4 ⟨rfl,hb4⟩;have bb:=(hb4.block wr.heap.size hN).trans hE;have R4:=a0b (zA (RX.out.1.later hb4) (RX.out.2.1.later hb4));have f0:=e0T bb;have f1:=e5p bb;have f2:=e0S bb;have f3:=e0R bb;have f4:=e0P bb;have f5:=e5o bb;have SEL:Hid (b7U name fr til xs[k].1=((xs[k].1.a0k.toList==name.toList) && (xs[k].1.kind != 3) && decide (0<=a2E fr til xs[k].1.a0e))):=rfl;generalize a2E fr til xs[k].1.a0e=ff at *;clear hb4 FA hE
   have hno:b7U name fr til xs[k].1=false->∃ k_1:Nat,k_1<=xs.length/\(Value.int .i64 ((k:Int)+1))=.int .i64 k_1/\∃ ys,d9z w w4 u9 ys/\ys.length<=k_1/\(∀ y∈ys,EB y.1)/\ys.map (·.1)=((xs.take k_1).map (·.1)).filter (b7U name fr til) :=
    fun h=>⟨k+1,by omega,rfl,ys,R4.out.1,by omega,HR.out.2.2,ST.out h⟩
   have NO:=a0b hno;clear hno
   cases q1:(xs[k].1.a0k.toList==name.toList)
   ·have N1:=a0b (NO.out (by rw[SEL.out,q1];rfl))
    go_wp2_with fail
    go_roundw
    case rel=>exact N1.out
    case measure=>simp[intOf];omega
   ·cases q2:(xs[k].1.kind != 3)
    ·have N1:=a0b (NO.out (by rw[SEL.out,q2];simp))
     go_wp2_with fail
     go_roundw
     case rel=>exact N1.out
     case measure=>simp[intOf];omega
    ·by_cases q3:0<=ff
     ·have S1:Hid (b7U name fr til xs[k].1=true):=by show _=_;rw[SEL.out,q1,q2];simpa using q3
      have CP:=a0b (f2w xs[k] w4 R4.out.2 hsl.1 hsl.2)
      go_wp2_with fail
      refine CP.out.mono ?_;rintro e w5 ⟨gq,cq,rfl,a1,a2,a3,hb5⟩;simp only[c7a];have R5:=a0b (R4.out.1.later hb5);have hne:u9.ownBlock≠some gq:=fun e=>by have:=c7O R4.out.1.own e;omega
      have Q5:=a0b (zA a1 (zA (Nat.le_trans R4.out.1.bw.size a2) (zA a3 hne)));have hbz:=R5.out.bw.size;clear hb5 a1 a2 a3 hne f0 f1 f2 f3 f4 f5 CP q1 q2 bb
      go_wp2_with (first|(at_builtin;refine g3I rfl _ _ rfl R5.out.own (xs[k].1,gq,cq) rfl rfl (by omega) hbz ?_;intro g6 c6 w6 ho6 k6 hat6))
      have R6:=a0b (R5.out.snoc Q5.out ho6 k6 hat6);clear ho6 k6 hat6;go_roundw
      case rel =>
       refine⟨k+1,by omega,by go_num,_,R6.out,by simp;omega,fun y hy=>?_,by rw[List.map_append,HR.out.2.1,HT.out,List.filter_append];simp[S1.out]⟩;rcases List.mem_append.1 hy with hy|hy
       ·exact HR.out.2.2 y hy
       ·have:y=(xs[k].1,gq,cq):=by simpa using hy
        subst this;exact RX.out.2.2.1
      case measure=>simp[intOf];omega
     ·have N1:=a0b (NO.out (by rw[SEL.out];simp;omega))
      go_wp2_with fail
      go_roundw
      case rel=>exact N1.out
      case measure=>simp[intOf];omega
  ·have e:xs.take k=xs:=List.take_of_length_le (by omega);have hi:¬ (k:Int)<(xs.length:Int):=by omega
   have hfl:ys.map (·.1)=s.es.filter (b7U name fr til):=by rw[hys,e,H.out.es]
   have hyn:ys.length<=60:=by omega
   obtain⟨ay,cy,rfl⟩:=c9y hR.own;have HYS:=a0b (zA hR (zA hfl hye));clear hR hys hye hD hr e HR
   by_cases hz:ys.length=0
   ·have h0:ys=[]:=List.length_eq_zero_iff.1 hz
    have HF:Hid (e2K w c7N (Desk.a2x name fr til s.es) wr):=by
     refine⟨[],[],?_,fun w2 _=>EV.nil w2,by simp,HYS.out.1.bw⟩;have:=HYS.out.2.1;rw[h0] at this;unfold Desk.a2x;rw[<- this];rfl
    have hz':((ys.length:Int)==0)=true:=by simp[hz]
    go_wp2_with fail
    go_ret;exact⟨_,rfl,HF.out⟩
   ·have hz':((ys.length:Int)==0)=false:=by simp[hz]
    have hn0:0<ys.length:=by omega
    have hmk:=run_make (P:=Tryz.prog) wr 34 58 i0 _ Tryz.underlying34 hi0 hz0 .i64 .i64 ys.length ys.length (by omega) (Int.le_refl _) (by rw[hz2];omega) (by omega);simp only[Int.toNat_natCast] at hmk;obtain⟨cs0,hcs0⟩:∃ cs0,cs0=madeCells (Value.agg #[.int .i64 0,.int .i64 0,.string ⟨#[]⟩,.int .i64 0,.slice none 0 0,.int .i64 0]).cells (ys.length*i0.size):=⟨_,rfl⟩;rw[<- hcs0] at hmk;have hc0:cs0.size=ys.length*6:=by rw[hcs0,size_madeCells,hz1]
    clear hcs0;obtain⟨a',cap',gl,he,_,ha,_⟩:=e1F HYS.out.1.own (fun y hy=>(HYS.out.1.sl y hy).1);simp only[Value.slice.injEq,true_and] at he;obtain⟨rfl,rfl⟩:=he;obtain rfl:=ha (by intro e;simp[e] at hn0)
    have KEY:Hid (∀ wx,Off [wr.heap.size] wr wx->∀ (i:Nat) (hi:i<ys.length),RE wx gl i ys[i].1 ys[i].2.1 ys[i].2.2):=fun wx k=>by
     have R:=HYS.out.1.off k (zq _);obtain⟨a2,c2,g2,he,_,ha2,hr2⟩:=e1F R.own (fun y hy=>(R.sl y hy).1);have:=ha2 (by intro e;simp[e] at hn0);simp only[Value.slice.injEq,this,Option.some.injEq,Addr.mk.injEq] at he;obtain⟨⟨rfl,_⟩,_⟩:=he;exact hr2
    obtain⟨fs,hfs⟩:∃ fs,fs=Desk.d3X fr til (ys.map (·.1)):=⟨_,rfl⟩
    have FS:Hid (fs.length=ys.length/\∀ (i:Nat) (hi:i<ys.length),fs.getD i 0=a2E fr til ys[i].1.a0e):=by
     rw[hfs];refine⟨by simp[Desk.d3X],fun i hi=>?_⟩;rw[Desk.d6H (by simpa using hi)];simp
    have HFS:=a0b hfs;have YE:Hid (∀ (i:Nat) (hi:i<ys.length),ys[i].1.a0e.length<=1000):=fun i hi=>by have:=(HYS.out.2.2 ys[i] (zg hi)).sl;omega
    clear hfs ha
    go_upto_region 12 with fail
    have hO:=a0p wr (.cells cs0 58);have kO:Off [wr.heap.size] wr (wr.alloc (.cells cs0 58)):=(Off.refl _ _).alloc _;have OO:=a0b (zA kO hO);clear hmk kO hO cc;generalize wr.alloc (.cells cs0 58)=Wo at *;have hgO:gl<wr.heap.size:=c7O HYS.out.1.own rfl;obtain⟨O,hOe⟩:∃ O,O=wr.heap.size:=⟨_,rfl⟩;rw[<- hOe] at OO KEY hgO ⊢;have HOE:=a0b hOe;clear hOe;obtain⟨W1,hW1⟩:∃ W1,W1=wr:=⟨_,rfl⟩;subst hW1
    go_wp2_with fail
    go_loopw [14,15,16,17,18] (fun i _ _ _ _ wx=>∃ j:Nat,j<=ys.length/\i=.int .i64 j/\∃ cs,Off [O] W1 wx/\wx.heap[O]?=some (.cells cs 58)/\cs.size=ys.length*6/\∀ (j':Nat) (_:j'<j) (hl:j'<ys.length) (c:Nat),c<6->cs[Rank.e3Z fs j'*6+c]?=(c7a ys[j'])[c]?) (fun i _ _ _ _ _=>ys.length-(intOf i).toNat)
    case atStart=>exact⟨0,Nat.zero_le _,rfl,cs0,OO.out.1,OO.out.2,hc0,fun j' h=>by omega⟩
    case round =>
     obtain⟨j,hj,rfl,cs,hof,hcs,hsz,hfill⟩:=hrel;have HC:=a0b (zA hof (zA hcs (zA hsz hfill)))
     by_cases hjl:j<ys.length
     ·have r0:=KEY.out _ hof j hjl;have c0:=r0.c0;have c1:=r0.c1;have c2:=r0.c2;have c3:=r0.c3;have c4:=r0.c4;have c5:=r0.c5;have hi2:(j:Int)<(ys.length:Int):=by omega
      have FA:=a0b (d8X ys[j] fr til _ r0.sl (by have:=YE.out j hjl;omega));have FJ:=FS.out.2 j hjl;rw[<- FJ] at FA;clear hof hcs hsz hfill r0 FJ
      go_wp2_with fail
      refine FA.out.mono ?_;rintro e w4 ⟨rfl,hb4⟩;have H4:Hid (Off [O] W1 w4/\w4.heap[O]?=some (.cells cs 58)):=⟨HC.out.1.trans (Off.of_below hb4),(hb4.block _ (Array.getElem?_eq_some_iff.1 HC.out.2.1).1).trans HC.out.2.1⟩;obtain⟨fj,hfj⟩:∃ fj,fj=fs.getD j 0:=⟨_,rfl⟩;rw[<- hfj];have HFJ:=a0b hfj;clear hb4 FA c0 c1 c2 c3 c4 c5 hfj
      go_wp2_with fail
      go_loopw [15,17,18] (fun at_ i _ wx=>∃ q:Nat,q<=ys.length/\i=.int .i64 q/\at_=.int .i64 (Rank.upto fs j q:Nat)/\Off [O] W1 wx/\wx.heap[O]?=some (.cells cs 58)) (fun _ i _ _=>ys.length-(intOf i).toNat)
      case atStart=>exact⟨0,Nat.zero_le _,rfl,rfl,H4.out⟩
      case round =>
       obtain⟨q,hq,rfl,rfl,hof,hcs⟩:=hrel;have hup:=Rank.e5Z fs j q
       by_cases hql:q<ys.length
       ·have r0:=KEY.out _ hof q hql;have c0:=r0.c0;have c1:=r0.c1;have c2:=r0.c2;have c3:=r0.c3;have c4:=r0.c4;have c5:=r0.c5;have hi3:(q:Int)<(ys.length:Int):=by omega
        have FA:=a0b (d8X ys[q] fr til _ r0.sl (by have:=YE.out q hql;omega));have FJ:=FS.out.2 q hql;rw[<- FJ] at FA;have UP:Hid (Rank.upto fs j (q+1)=Rank.upto fs j q+if Rank.before fs q j then 1 else 0):=Rank.d3x fs j q;have BF:Hid (Rank.before fs q j=(decide (fs.getD q 0<fj) || (decide (fs.getD q 0=fj) && decide (q<j)))):=by show _=_;rw[HFJ.out];rfl
        have HO:=a0b (zA hof hcs);clear hof hcs r0 FJ
        go_wp2_with fail
        refine FA.out.mono ?_;rintro e w5 ⟨rfl,hb5⟩;have H5:Hid (Off [O] W1 w5/\w5.heap[O]?=some (.cells cs 58)):=⟨HO.out.1.trans (Off.of_below hb5),(hb5.block _ (Array.getElem?_eq_some_iff.1 HO.out.2).1).trans HO.out.2⟩;generalize fs.getD q 0=fq at *;generalize Rank.upto fs j q=uq at *;clear hb5 FA c0 c1 c2 c3 c4 c5;have hyes:Rank.before fs q j=true->∃ q_1:Nat,q_1<=ys.length/\(Value.int .i64 ((q:Int)+1))=.int .i64 q_1/\(Value.int .i64 ((uq:Int)+1))=.int .i64 (Rank.upto fs j q_1:Nat)/\Off [O] W1 w5/\w5.heap[O]?=some (.cells cs 58):=fun h=>⟨q+1,by omega,rfl,by rw[UP.out,h];rfl,H5.out⟩
        have hnot:Rank.before fs q j=false->∃ q_1:Nat,q_1<=ys.length/\(Value.int .i64 ((q:Int)+1))=.int .i64 q_1/\(Value.int .i64 (uq:Int))=.int .i64 (Rank.upto fs j q_1:Nat)/\Off [O] W1 w5/\w5.heap[O]?=some (.cells cs 58):=fun h=>⟨q+1,by omega,rfl,by rw[UP.out,h];rfl,H5.out⟩
        have HY:=a0b hyes;have HN:=a0b hnot;clear hyes hnot
        by_cases a1:fq<fj
        ·have Y1:=a0b (HY.out (by rw[BF.out];simp[a1]))
         go_wp2_with fail
         go_roundw
         case rel=>exact Y1.out
         case measure=>simp[intOf];omega
        ·by_cases a2:fq=fj
         ·have a2':(fq==fj)=true:=by simpa using a2
          by_cases a3:q<j
          ·have Y1:=a0b (HY.out (by rw[BF.out];simp[a2,a3]));have a3':(q:Int)<(j:Int):=by omega
           clear a2
           go_wp2_with fail
           go_roundw
           case rel=>exact Y1.out
           case measure=>simp[intOf];omega
          ·have Y1:=a0b (HN.out (by rw[BF.out];simp[a1,a3]));have a3':¬ (q:Int)<(j:Int):=by omega
           clear a2
           go_wp2_with fail
           go_roundw
           case rel=>exact Y1.out
           case measure=>simp[intOf];omega
         ·have a2':(fq==fj)=false:=by simpa using a2
          have Y1:=a0b (HN.out (by rw[BF.out];simp[a1,a2]));clear a2
          go_wp2_with fail
          go_roundw
          case rel=>exact Y1.out
          case measure=>simp[intOf];omega
       ·have e:Rank.upto fs j q=Rank.e3Z fs j:=by unfold Rank.e3Z;rw[FS.out.1,show q=ys.length by omega]
        have hi3:¬ (q:Int)<(ys.length:Int):=by omega
        have hrk:=Rank.e6F fs (i:=j) (by rw[FS.out.1];exact hjl);rw[FS.out.1] at hrk;rw[e];have r0:=KEY.out _ hof j hjl;have c0:=r0.c0;have c1:=r0.c1;have c2:=r0.c2;have c3:=r0.c3;have c4:=r0.c4;have c5:=r0.c5;have hsz:=HC.out.2.2.1;have hji:(j:Int)<(ys.length:Int):=by omega
        obtain⟨p,hp⟩:∃ p,p=Rank.e3Z fs j:=⟨_,rfl⟩;rw[<- hp] at hrk ⊢;have HP:=a0b hp;have hpi:(p:Int)<(ys.length:Int):=by omega
        have oc:∀ c,c<6->∃ v,wr.cell? ⟨O,p*6+c,none⟩=some v:=fun c hc=>by
         have h9:p*6+c<cs.size:=by omega
         exact⟨cs[p*6+c],by simp[World.cell?,hcs,h9]⟩
        obtain⟨v0,o0⟩:=oc 0 (by omega);obtain⟨v1,o1⟩:=oc 1 (by omega);obtain⟨v2,o2⟩:=oc 2 (by omega);obtain⟨v3,o3⟩:=oc 3 (by omega);obtain⟨v4,o4⟩:=oc 4 (by omega);obtain⟨v5,o5⟩:=oc 5 (by omega);rw[Nat.add_zero] at o0;have of:=f0l hcs;have hgO':gl≠O:=by have:=HOE.out;omega
        have HO:=a0b (zA hof hcs);clear hof hcs r0 hp oc e hsz
        go_wp2_with fail
        go_roundw
        case rel =>
         refine⟨j+1,by omega,by go_num,g0s cs p (.int .i64 ys[j].1.id) (.int .i64 ys[j].1.kind) (.string ys[j].1.a0k) (.int .i64 ys[j].1.a0c) (.slice (some ⟨ys[j].2.1,0,none⟩) ys[j].1.a0e.length ys[j].2.2) (.int .i64 ys[j].1.a0Z),((((((HO.out.1.setCell (.inl (by simp)) _ _).setCell (.inl (by simp)) _ _).setCell (.inl (by simp)) _ _).setCell (.inl (by simp)) _ _).setCell (.inl (by simp)) _ _).setCell (.inl (by simp)) _ _),f4c HO.out.2 p _ _ _ _ _ _,by rw[f4b];exact HC.out.2.2.1,fun j' h1 h2 c h3=>?_⟩;rw[f8r _ _ _ _ _ _ _ _ (by have:=HC.out.2.2.1;omega) _ _ h3]
         by_cases e1:j'=j
         ·subst e1;rw[HP.out,if_pos rfl];rfl
         ·rw[if_neg,HC.out.2.2.2 j' (by omega) h2 c h3];intro e2;rw[HP.out] at e2;exact e1 (Rank.e1x (fs:=fs) (by rw[FS.out.1];exact h2) (by rw[FS.out.1];exact hjl) e2)
        case measure=>simp[intOf];omega
     ·have hi2:¬ (j:Int)<(ys.length:Int):=by omega
      have HF:Hid (e2K w (.slice (some ⟨O,0,none⟩) ys.length ys.length) (Desk.a2x name fr til s.es) wr):=by
       obtain⟨zs,hzl,hzr⟩:=f4a fs ys FS.out.1;have R:=HYS.out.1.off hof (by rw[HOE.out];exact zq _)
       have hmem:∀ z∈zs,z∈ys:=fun z hz=>by
        obtain⟨p,hp,rfl⟩:=List.getElem_of_mem hz;obtain⟨i,hi,e⟩:=Rank.d5F fs (k:=p) (by rw[FS.out.1];omega);have:=hzr i (by rw[<- FS.out.1];exact hi);rw[e,List.getElem?_eq_getElem hp,Option.some.injEq] at this;rw[this];exact zg _
       have hO2:O<wr.heap.size:=(Array.getElem?_eq_some_iff.1 hcs).1;have T:=g0R (w:=w) (w':=wr) (g:=O) (cap:=ys.length) (a:=some ⟨O,0,none⟩) (zs:=zs) (fun _=>rfl) (fun p hp=>?_) (fun _=>⟨by have:=HYS.out.1.bw.size;have:=HOE.out;omega,hO2⟩) (fun z hz=>⟨(R.sl z (hmem z hz)).2.1,(R.sl z (hmem z hz)).2.2.1⟩) R.bw
       ·rw[hzl] at T;have e1:=Desk.b3f (name:=name) (a:=fr) (b:=til) (es:=s.es) (out:=zs.map (·.1)) hid
        obtain⟨p1,p2⟩:=Desk.f3Z (a:=fr) (b:=til) (l:=ys.map (·.1)) (out:=zs.map (·.1)) (by rw[HYS.out.2.1];exact Desk.a5J _ hid) (by simp[hzl]) (fun i hi=>by
         have hi':i<ys.length:=by simpa using hi
         rw[<- HFS.out,List.getElem?_map,hzr i hi'];simp)
        rw[e1 p1 (fun e=>by rw[p2 e,HYS.out.2.1])] at T;exact T
       ·obtain⟨i,hi,e⟩:=Rank.d5F fs (k:=p) (by rw[FS.out.1];omega);have hi':i<ys.length:=by rw[<- FS.out.1];exact hi
        have hz:=hzr i hi';rw[e,List.getElem?_eq_getElem hp,Option.some.injEq] at hz
        have cl:∀ c,c<6->wr.cell? ⟨O,p*6+c,none⟩=(c7a zs[p])[c]?:=fun c hc=>by
         have:=hfill i (by omega) hi' c hc;rw[e] at this;rw[hz,<- this];simp[World.cell?,hcs]
        exact⟨cl 0 (by omega),cl 1 (by omega),cl 2 (by omega),cl 3 (by omega),cl 4 (by omega),cl 5 (by omega),(R.sl zs[p] (hmem _ (zg hp))).1⟩
      clear hof hcs hsz hfill
      go_wp2_with fail
      go_ret;exact⟨_,rfl,HF.out⟩
theorem DD.tells{X Z:World}(h:DD w d s xs F)(kX:Below w.heap.size w X)(T:e2K X v es Z){Q:Nat}(hQ:w.heap.size<=Q)(hQX:Q<X.heap.size)(a b c e f g i:Value):d1S w d F xs (s,{ Rep.num 0 with entries:=es }) (.returned (a0s 0 0 0 v c7N c7N c7N)) (a2w Z Q a b c e f g i):=by
 obtain⟨l,G,hl,hE,hG,kZ⟩:=T;have k7:=a2R Z Q a b c e f g i;have kw:Below w.heap.size w Z:=a0j kX kZ (zq _);have hF:∀ x,x<w.heap.size->x ∉ [Q]:=fun x hx e=>by simp at e;omega
 have hGQ:∀ x∈G,x ∉ [Q]:=fun x hx e=>by have:=(hG x hx).1;simp at e;omega
 refine⟨v,c7N,c7N,c7N,xs,F,G,rfl,fun w2 h2=>⟨⟨l,hE w2 (fun x hx=>(h2 x hx).trans (k7.block x (hG x hx).2 (hGQ x hx))),hl⟩,NV.nil _,NV.nil _⟩,World.ownsRow_nil _ _ _ _,(h.later kw).off k7 (fun x hx=>hF x (h.lt x hx)) (fun x hx=>hF _ (h.rd.sp x hx).2.2),fun _ hx=>.inl hx,(Off.of_below kw).trans' k7 (fun x hx=>.inr (by simp at hx;omega)),fun x hx=>?_,fun x hx=>by simp[Value.ownBlock] at hx,fun x hx=>.inl ⟨x,hx,rfl⟩⟩;have h1:=hG x hx;have h2:=kX.size;exact⟨by omega,Nat.lt_of_lt_of_le h1.2 k7.size,fun e=>by have:=h.lt x e;omega,by simp[Value.ownBlock]⟩
theorem e2K.bw(h:e2K w v es w'):Below w.heap.size w w':=by obtain⟨_,_,_,_,_,k⟩:=h;exact k
theorem e2K.form(h:e2K w v es w'):∃ a cap,v=.slice a es.length cap:=by
 obtain⟨l,G,hl,hE,_⟩:=h;obtain⟨a,c,e⟩:=(hE w' (fun _ _=>rfl)).form;exact⟨a,c,by rw[<- hl,List.length_map];exact e⟩
def g4x(b:Bool)(name:ByteArray)(fr til:Int):Desk.a7U:=if b then .list name fr til else .peak name fr til
def g5f(w:World)(g n:Nat)(b:Bool)(fr til:Int):Prop:=(n=2/\b=true/\fr=0/\til=1048320)\/(3<n/\∃ t u:ByteArray,t.size<=160/\u.size<=160/\w.cell? ⟨g,2,none⟩=some (.string t)/\w.cell? ⟨g,3,none⟩=some (.string u)/\g2T t=fr/\g2T u=til)
theorem d9v(h:DD w d s xs F)(hid:Desk.Ids s.es){b:Bool}{fr til:Int}(hb:(kw.toList==[108,105,115,116])=b)(hn:1<n)(ht:g5f w g n b fr til)(h0:w.cell? ⟨g,0,none⟩=some (.string kw))(h1:w.cell? ⟨g,1,none⟩=some (.string name)):
  Calls Tryz.prog 177 #[.pointer (some ⟨d,0,none⟩),.slice (some ⟨g,0,none⟩) n c] w (d1S w d F xs (a0g s (g4x b name fr til))):=by
 have P0:=a0b ((KP.nil w).alloc a0f);have H:=a0b h;have i0:(0:Int)<(n:Int):=by omega
 have i1:(1:Int)<(n:Int):=by omega
 have y0:=a0a P0.out.bl h0;have y1:=a0a P0.out.bl h1;have hQ:w.heap.size<(w.alloc a0f).heap.size:=by simp
 have HD:Hid (a0g s (g4x b name fr til)=if Desk.a0h name s.ts=0 then (s,.error 3) else if til<=fr then (s,.error 6) else if b then (s,{ Rep.num 0 with entries:=Desk.a2x name fr til s.es }) else (s,.num (Desk.a1Q name s.es fr til))):=by
  show _=_
  cases b <;> rfl
 clear h
 go_enter Tryz.func177,Tryz.ntmps177
 go_upto_region 1 with fail
 change Code.wp _ _ _ _ (w.alloc a0f);generalize w.alloc a0f=X at *;generalize a0g s (g4x b name fr til)=D at *;rcases ht with ⟨rfl,rfl,rfl,rfl⟩|⟨h3,t,u,zt,zu,ct,cu,rfl,rfl⟩
 ·have D0:=a0b (H.out.later P0.out.bl);have UN:=a0b (D0.out.a0c name);have LS:=a0b (e4t D0.out hid name 0 1048320);have Q1:=a0b (Q7.of (P0.out.kb (w.heap.size,a0f) (by simp)));generalize Desk.a0h name s.ts=un at *
  go_wp2_with fail
  refine UN.out.mono ?_;rintro e w3 ⟨rfl,rfl⟩
  by_cases a1:un=0
  ·have HF:Hid (d1S w d F xs D (.returned (a0s 3 0 0 c7N c7N c7N c7N)) (a2w w3 w.heap.size (.int .i64 3) (.int .i64 0) (.int .i64 0) c7N c7N c7N c7N)):=by
    show d1S w d F xs _ _ _;rw[HD.out,if_pos a1];exact H.out.said P0.out.bl (zq _) 3 0 _ _ _ _ _ _ _
   have a1':(un==0)=true:=by simpa using a1
   obtain⟨q0,q1,q2,q3,q4,q5,q6,fq⟩:=Q1.out;clear a1
   go_wp2_with fail
   exact bodyPost_ret (v:=a0s 3 0 0 c7N c7N c7N c7N) (by simp[results,Tryz.results177,go_sem,a0s,c7N,q0,q1,q2,q3,q4,q5,q6]) rfl HF.out
  ·have a1':(un==0)=false:=by simpa using a1
   have E9:Hid (D=(s,{ Rep.num 0 with entries:=Desk.a2x name 0 1048320 s.es })):=by show _=_;rw[HD.out,if_neg a1];rfl
   clear a1
   go_wp2_with fail
   refine LS.out.mono ?_;rintro e w4 ⟨v,rfl,hT⟩;obtain⟨al,cl,hv⟩:=hT.form
   have HF:Hid (d1S w d F xs D (.returned (a0s 0 0 0 v c7N c7N c7N)) (a2w w4 w.heap.size (.int .i64 0) (.int .i64 0) (.int .i64 0) v c7N c7N c7N)):=by
    show d1S w d F xs _ _ _;rw[E9.out];exact H.out.tells P0.out.bl hT (zq _) hQ _ _ _ _ _ _ _
   obtain⟨q0,q1,q2,q3,q4,q5,q6,fq⟩:=Q1.out.later (hT.bw.block _ hQ);clear hT;subst hv
   go_wp2_with fail
   exact bodyPost_ret (v:=a0s 0 0 0 (.slice al _ cl) c7N c7N c7N) (by simp[results,Tryz.results177,go_sem,a0s,c7N,q0,q1,q2,q3,q4,q5,q6]) rfl HF.out
 ·have i2:(2:Int)<(n:Int):=by omega
  have i3:(3:Int)<(n:Int):=by omega
  have c2:=a0a P0.out.bl ct;have T1:=a0b (fun wx=>d0T t wx zt);have T2:=a0b (fun wx=>d0T u wx zu);generalize g2T t=fr at *;generalize g2T u=til at *
  go_wp2_with fail
  refine (T1.out _).mono ?_;rintro e w1 ⟨rfl,hb1⟩;replace P0:=a0b (P0.out.later hb1);have c3:=a0a P0.out.bl cu;clear hb1 y0 y1 c2 hQ
  go_wp2_with fail
  refine (T2.out _).mono ?_;rintro e w2 ⟨rfl,hb2⟩;replace P0:=a0b (P0.out.later hb2);have y0:=a0a P0.out.bl h0;have y1:=a0a P0.out.bl h1;have hQ:w.heap.size<w2.heap.size:=P0.out.lt (q:=(w.heap.size,a0f)) (by simp);clear hb2 c3 T1 T2 X;have D0:=a0b (H.out.later P0.out.bl);have UN:=a0b (D0.out.a0c name);have LS:=a0b (e4t D0.out hid name fr til);have PK:=a0b (D0.out.peak name fr til);have Q1:=a0b (Q7.of (P0.out.kb (w.heap.size,a0f) (by simp)));generalize Desk.a0h name s.ts=un at *;generalize Desk.a1Q name s.es fr til=pk at *
  go_wp2_with fail
  refine UN.out.mono ?_;rintro e w3 ⟨rfl,rfl⟩
  by_cases a1:un=0
  ·have HF:Hid (d1S w d F xs D (.returned (a0s 3 0 0 c7N c7N c7N c7N)) (a2w w3 w.heap.size (.int .i64 3) (.int .i64 0) (.int .i64 0) c7N c7N c7N c7N)):=by
    show d1S w d F xs _ _ _;rw[HD.out,if_pos a1];exact H.out.said P0.out.bl (zq _) 3 0 _ _ _ _ _ _ _
   have a1':(un==0)=true:=by simpa using a1
   obtain⟨q0,q1,q2,q3,q4,q5,q6,fq⟩:=Q1.out;clear a1
   go_wp2_with fail
   exact bodyPost_ret (v:=a0s 3 0 0 c7N c7N c7N c7N) (by simp[results,Tryz.results177,go_sem,a0s,c7N,q0,q1,q2,q3,q4,q5,q6]) rfl HF.out
  ·have a1':(un==0)=false:=by simpa using a1
   by_cases a2:til<=fr
   ·have HF:Hid (d1S w d F xs D (.returned (a0s 6 0 0 c7N c7N c7N c7N)) (a2w w3 w.heap.size (.int .i64 6) (.int .i64 0) (.int .i64 0) c7N c7N c7N c7N)):=by
     show d1S w d F xs _ _ _;rw[HD.out,if_neg a1,if_pos a2];exact H.out.said P0.out.bl (zq _) 6 0 _ _ _ _ _ _ _
    obtain⟨q0,q1,q2,q3,q4,q5,q6,fq⟩:=Q1.out;clear a1
    go_wp2_with fail
    exact bodyPost_ret (v:=a0s 6 0 0 c7N c7N c7N c7N) (by simp[results,Tryz.results177,go_sem,a0s,c7N,q0,q1,q2,q3,q4,q5,q6]) rfl HF.out
   ·cases b
    ·have E9:Hid (D=(s,.num pk)):=by show _=_;rw[HD.out,if_neg a1,if_neg a2];rfl
     clear a1
     go_wp2_with fail
     refine PK.out.mono ?_;rintro e w4 ⟨rfl,hb4⟩;have B4:=a0b (a0j P0.out.bl hb4 (zq _))
     have HF:Hid (d1S w d F xs D (.returned (a0s 0 0 pk c7N c7N c7N c7N)) (a2w w4 w.heap.size (.int .i64 0) (.int .i64 0) (.int .i64 pk) c7N c7N c7N c7N)):=by
      show d1S w d F xs _ _ _;rw[E9.out];exact H.out.said B4.out (zq _) 0 pk _ _ _ _ _ _ _
     obtain⟨q0,q1,q2,q3,q4,q5,q6,fq⟩:=Q1.out.later (hb4.block _ hQ);clear hb4
     go_wp2_with fail
     exact bodyPost_ret (v:=a0s 0 0 pk c7N c7N c7N c7N) (by simp[results,Tryz.results177,go_sem,a0s,c7N,q0,q1,q2,q3,q4,q5,q6]) rfl HF.out
    ·have E9:Hid (D=(s,{ Rep.num 0 with entries:=Desk.a2x name fr til s.es })):=by show _=_;rw[HD.out,if_neg a1,if_neg a2];rfl
     clear a1
     go_wp2_with fail
     refine LS.out.mono ?_;rintro e w4 ⟨v,rfl,hT⟩;obtain⟨al,cl,hv⟩:=hT.form
     have HF:Hid (d1S w d F xs D (.returned (a0s 0 0 0 v c7N c7N c7N)) (a2w w4 w.heap.size (.int .i64 0) (.int .i64 0) (.int .i64 0) v c7N c7N c7N)):=by
      show d1S w d F xs _ _ _;rw[E9.out];exact H.out.tells P0.out.bl hT (zq _) hQ _ _ _ _ _ _ _
     obtain⟨q0,q1,q2,q3,q4,q5,q6,fq⟩:=Q1.out.later (hT.bw.block _ hQ);clear hT;subst hv
     go_wp2_with fail
     exact bodyPost_ret (v:=a0s 0 0 0 (.slice al _ cl) c7N c7N c7N) (by simp[results,Tryz.results177,go_sem,a0s,c7N,q0,q1,q2,q3,q4,q5,q6]) rfl HF.out
theorem f5D:(Tryz.prog.info? 315).map (fun i=>(i.zero,i.size,i.bytes))=some (some (.agg #[.string ⟨#[]⟩,.int .i64 0]),2,24):=by kernel_rfl
theorem e4W(args:Array Value)(w:World):(callFunc 126 args).run Tryz.prog w=.ok (.enter 126 args) w:=by kernel_rfl
theorem DD.thinged{Y w5:World}{cap:Nat}{t:ByteArray × Int}(h:DD Y d s xs F)(cv:Y.cell? ⟨d,0,none⟩=some v)(ho:Y.ownsRow 0 315 2 v s.ts.length (s.ts.flatMap c4x))(hvF:∀ k,v.ownBlock=some k->k∈F/\k≠d)(k:Off (v.ownBlock.toList) Y w5)(ho5:w5.ownsRow 0 315 2 (.slice (some ⟨g,0,none⟩) (s.ts.length+1) cap) (s.ts.length+1) (s.ts.flatMap c4x++c4x t))(hg:v.ownBlock=some g\/Y.heap.size<=g)(hl:s.ts.length<4):
  DD (w5.setCell ⟨d,0,none⟩ (.slice (some ⟨g,0,none⟩) (s.ts.length+1) cap)) d { s with ts:=s.ts++[t] } xs (g :: F)/\Off F Y (w5.setCell ⟨d,0,none⟩ (.slice (some ⟨g,0,none⟩) (s.ts.length+1) cap)):=by
 obtain⟨v2,b1,b2,b3⟩:=h.rd.ev;have hdl:d<Y.heap.size:=h.lt d h.rd.dF
 have hgd:g≠d:=by
  rcases hg with e|e
  ·exact (hvF g e).2
  ·omega
 have hvF2:∀ y∈v.ownBlock.toList,y∈F/\y≠d:=fun y hy=>hvF y (by simpa using hy)
 have hdv:d ∉ v.ownBlock.toList:=fun e=>(hvF2 d e).2 rfl
 have k0:Off [d] w5 (w5.setCell ⟨d,0,none⟩ (.slice (some ⟨g,0,none⟩) (s.ts.length+1) cap)):=Off.set0 ..;have k1:Off (d :: v.ownBlock.toList) Y (w5.setCell ⟨d,0,none⟩ (.slice (some ⟨g,0,none⟩) (s.ts.length+1) cap)):=(k.mono (by intro y hy;exact List.mem_cons_of_mem _ hy)).setCell (.inl (by simp)) _ _
 have hF1:∀ y,y ∉ F->y ∉ d :: v.ownBlock.toList:=by
  intro y hy e;rcases List.mem_cons.1 e with rfl|e
  ·exact hy h.rd.dF
  ·exact hy (hvF2 y e).1
 have hv2:∀ b,v2.ownBlock=some b->b ∉ d :: v.ownBlock.toList:=by
  intro b hb e;rcases List.mem_cons.1 e with e|e
  ·exact (b3 b hb).2 e
  ·have e:v.ownBlock=some b:=by simpa using e
   rcases ho.2 with ⟨rfl,_⟩|⟨g',cap',cur,rfl,_,hh,_⟩
   ·simp[Value.ownBlock] at e
   ·simp[Value.ownBlock] at e;subst e;exact c8L b2 hh (by decide) hb
 have cd:∀ o u,Y.cell? ⟨d,o,none⟩=some u->o≠0->(w5.setCell ⟨d,0,none⟩ (.slice (some ⟨g,0,none⟩) (s.ts.length+1) cap)).cell? ⟨d,o,none⟩=some u:=fun o u hu _=>(zS _ _ _ _ (by simp)).trans (k.cell hdv hu)
 refine⟨⟨⟨⟨_,World.cell?_setCell_same _ _ _ (k.cell hdv cv),?_,fun b hb=>?_⟩,⟨v2,cd 1 _ b1 (by omega),a1i b2 k1 hv2,fun b hb=>⟨List.mem_cons_of_mem _ (b3 b hb).1,(b3 b hb).2⟩⟩,cd 2 _ h.rd.c2 (by omega),cd 3 _ h.rd.c3 (by omega),fun o=>(zF ..).trans ((k.frozen hdv hdl).trans (h.rd.fz o)),List.mem_cons_of_mem _ h.rd.dF,fun y hy=>?_⟩,h.es,fun x hx=>?_,?_,h.el,h.en⟩,k1.mono (fun y hy=>?_)⟩
 ·have e1:(s.ts++[t]).flatMap c4x=s.ts.flatMap c4x++c4x t:=by simp
  rw[e1,List.length_append];exact a1i ho5 k0 (fun b hb=>by simp[Value.ownBlock] at hb;subst hb;simpa using hgd)
 ·simp[Value.ownBlock] at hb;subst hb;exact⟨by simp,hgd⟩
 ·obtain⟨y1,y2,y3⟩:=h.rd.sp y hy;refine⟨y1.off k1 (hF1 _ y2),fun e=>?_,Nat.lt_of_lt_of_le y3 k1.size⟩;rcases List.mem_cons.1 e with e|e
  ·rcases hg with e2|e2
   ·exact y2 (e ▸ (hvF g e2).1)
   ·omega
  ·exact y2 e
 ·rcases List.mem_cons.1 hx with rfl|hx
  ·exact zL (c7O ho5 rfl) k0.size
  ·exact zL (h.lt x hx) k1.size
 ·simp;omega
 ·rcases List.mem_cons.1 hy with rfl|hy
  ·exact h.rd.dF
  ·exact (hvF2 y hy).1
theorem f0K(h:DD w d s xs F)(hl:2<n)(z2:ut.size<=160)(hun:0<=Desk.a0h name s.ts)(h1:w.cell? ⟨g,1,none⟩=some (.string name))(h2:w.cell? ⟨g,2,none⟩=some (.string ut)):
  Calls Tryz.prog 172 #[.pointer (some ⟨d,0,none⟩),.slice (some ⟨g,0,none⟩) n c] w (d1S w d F xs (a0g s (.a0k name (b4g ut 1 7)))):=by
 obtain⟨ti,hi0,hz0,hz1,hz2⟩:=info_parts f5D;have P0:=a0b ((KP.nil w).alloc a0f);have H:=a0b h;have D0:=a0b (h.later P0.out.bl);have i1:(1:Int)<(n:Int):=by omega
 have i2:(2:Int)<(n:Int):=by omega
 have y1:=a0a P0.out.bl h1;have y2:=a0a P0.out.bl h2;have UN:=a0b (D0.out.a0c name);have NM:=a0b (fun wx=>b0E ut 1 7 wx z2 (by omega) (by omega));have HD:Hid (a0g s (.a0k name (b4g ut 1 7))=if Desk.a0h name s.ts≠0 then (s,.error 4) else if s.ts.length=4 then (s,.error 5) else ({ s with ts:=s.ts++[(name,b4g ut 1 7)] },.num 0)):=rfl;clear h
 go_enter Tryz.func172,Tryz.ntmps172
 go_upto_region 1 with fail
 change Code.wp _ _ _ _ (w.alloc a0f);generalize w.alloc a0f=X at *;generalize b4g ut 1 7=u at *;generalize Desk.a0h name s.ts=un at *
 go_wp2_with fail
 refine UN.out.mono ?_;rintro e w1 ⟨rfl,rfl⟩;clear UN;have Q1:=a0b (Q7.of (P0.out.kb (w.heap.size,a0f) (by simp)));obtain⟨v,cv,ho,hvF⟩:=D0.out.rd.tv;obtain⟨av,cpv,rfl⟩:=c9y ho
 by_cases a1:0<un
 ·have HF:Hid (d1S w d F xs (a0g s (.a0k name u)) (.returned (a0s 4 0 0 c7N c7N c7N c7N)) (a2w w1 w.heap.size (.int .i64 4) (.int .i64 0) (.int .i64 0) c7N c7N c7N c7N)):=by
   show d1S w d F xs _ _ _;rw[HD.out,if_pos (by omega)];exact H.out.said P0.out.bl (zq _) 4 0 _ _ _ _ _ _ _
  obtain⟨q0,q1,q2,q3,q4,q5,q6,fq⟩:=Q1.out
  go_wp2_with fail
  exact bodyPost_ret (v:=a0s 4 0 0 c7N c7N c7N c7N) (by simp[results,Tryz.results172,go_sem,a0s,c7N,q0,q1,q2,q3,q4,q5,q6]) rfl HF.out
 ·by_cases a2:s.ts.length=4
  ·have HF:Hid (d1S w d F xs (a0g s (.a0k name u)) (.returned (a0s 5 0 0 c7N c7N c7N c7N)) (a2w w1 w.heap.size (.int .i64 5) (.int .i64 0) (.int .i64 0) c7N c7N c7N c7N)):=by
    show d1S w d F xs _ _ _;rw[HD.out,if_neg (by omega),if_pos a2];exact H.out.said P0.out.bl (zq _) 5 0 _ _ _ _ _ _ _
   have q2':((s.ts.length:Int)==4)=true:=by simp;omega
   obtain⟨q0,q1,q2,q3,q4,q5,q6,fq⟩:=Q1.out
   go_wp2_with fail
   exact bodyPost_ret (v:=a0s 5 0 0 c7N c7N c7N c7N) (by simp[results,Tryz.results172,go_sem,a0s,c7N,q0,q1,q2,q3,q4,q5,q6]) rfl HF.out
  ·have q2':((s.ts.length:Int)==4)=false:=by simp;omega
   have hts:s.ts.length<4:=by have:=H.out.tl;omega
   have E9:Hid (a0g s (.a0k name u)=({ s with ts:=s.ts++[(name,u)] },⟨0,0,0,[],[],[],[]⟩)):=by
    show _=_;rw[HD.out,if_neg (by omega),if_neg a2];rfl
   have fd:=D0.out.rd.fz 0;have HO:=a0b (zA ho hvF);clear ho hvF a2 HD
   go_upto_region 6 with fail
   go_cut [34] from 21 to 37 (fun _ wx=>∃ g' cp Y w5,Below w1.heap.size w1 Y/\Off ((Value.slice av s.ts.length cpv).ownBlock.toList) Y w5/\w5.ownsRow 0 315 2 (.slice (some ⟨g',0,none⟩) (s.ts.length+1) cp) (s.ts.length+1) (s.ts.flatMap c4x++c4x (name,u))/\((Value.slice av s.ts.length cpv).ownBlock=some g'\/Y.heap.size<=g')/\wx=w5.setCell ⟨d,0,none⟩ (.slice (some ⟨g',0,none⟩) (s.ts.length+1) cp))
   case first =>
    go_region_law (first
     |(refine a2k (by rfl) 126 _ _ (by rfl) _ (by simp[Act.eval]) (e4W _ _) (NM.out _) ?_;rintro e w4 ⟨rfl,hb4⟩;refine⟨_,rfl,?_⟩;have kb4:Below w1.heap.size w1 w4:=a0j (a0q w1) hb4 (zq _);have cv4:=a0a kb4 cv;have cvA:∀ o,(w4.alloc o).cell? ⟨d,0,none⟩=some (.slice av s.ts.length cpv):=(fun o=>a0a ((zr _ _).alloc (zq _) _) cv4);have y14:=a0a kb4 y1;have fd4:=(kb4.frozen (World.block_lt_of_cell? _ _ cv)).trans fd;clear hb4)
     |(refine step_append_lies _ rfl _ _ 103 rfl 0 315 ti _ 2 24 Tryz.underlying103 hi0 hz0 hz1 hz2 rfl (by decide) (.slice av s.ts.length cpv) s.ts.length (s.ts.flatMap c4x) rfl (a1g HO.out.1 (a0j kb4 ((zr _ _).alloc (zq _) _) (zq _))) ⟨w4.heap.size,0,none⟩ 1 1 (c4x (name,u)) rfl rfl (World.news_of_block (cs:=(c4x (name,u)).toArray) (a0p w4 _)) (by simp[c4x,Value.oneCell']) (by omega) (by unfold maxLen;omega) (by omega) (zN _) (w4.heap.size+1) (by simp) ?_;intro g' cp w5 ho5 hgrow hat hlt;have kk:Off ((Value.slice av s.ts.length cpv).ownBlock.toList) w4 w5:=Off.grown ((Off.refl _ w4).alloc _) hgrow (fun k hk=>.inl (by simp[hk]));have hdv:d ∉ (Value.slice av s.ts.length cpv).ownBlock.toList:=(fun e=>(HO.out.2 d (by simpa using e)).2 rfl);have z1:=kk.cell hdv cv4;have z2:=(kk.frozen (o:=0) hdv (World.block_lt_of_cell? _ _ cv4)).trans fd4))
    all_goals
     go_wp2_with fail
     go_meet
     exact⟨g',cp,w4,w5,kb4,kk,ho5,hat.imp id (fun e=>by omega),rfl⟩
   case rest =>
    obtain⟨g',cp,Y,w5,kY,k5,ho5,hat,rfl⟩:=hcut;obtain⟨hJ,hO⟩:=(D0.out.later kY).thinged (a0a kY cv) (a1g HO.out.1 kY) HO.out.2 k5 ho5 hat hts;have hQF:w.heap.size ∉ F:=fun e=>by have:=H.out.lt _ e;omega
    have hQ:w.heap.size<w1.heap.size:=World.block_lt_of_cell? _ _ Q1.out.q0;have hQY:=kY.size;have hQ8:=hO.block w.heap.size (by omega) hQF;have Q2:=a0b ((Q1.out.later (kY.block _ hQ)).later hQ8)
    have hg':∀ x∈g' :: F,x∈F\/Y.heap.size<=x:=fun x hx=>by
     rcases List.mem_cons.1 hx with rfl|hx
     ·exact hat.imp (fun e=>(HO.out.2 x e).1) id
     ·exact .inl hx
    have hz:=P0.out.bl.size;have hw:Off F w (w5.setCell ⟨d,0,none⟩ (.slice (some ⟨g',0,none⟩) (s.ts.length+1) cp)):=((Off.of_below P0.out.bl).trans (Off.of_below kY)).trans hO;generalize w5.setCell ⟨d,0,none⟩ _=Z at *
    have HF:Hid (d1S w d F xs ({ s with ts:=s.ts++[(name,u)] },⟨0,0,0,[],[],[],[]⟩) (.returned (a0s 0 0 0 c7N c7N c7N c7N)) (a2w Z w.heap.size (.int .i64 0) (.int .i64 0) (.int .i64 0) c7N c7N c7N c7N)):=by
     refine hJ.put7 (fun x hx=>(hg' x hx).imp id (fun e=>by omega)) hw (zq _) (fun e=>?_) (fun x hx e=>?_) (fun x hx=>.inl ⟨x,hx,rfl⟩) 0 0 _ _ _ _ _ _ _
     ·rcases hg' _ e with e|e
      ·exact hQF e
      ·omega
     ·have:=(H.out.rd.sp x hx).2.2;omega
    obtain⟨q0,q1,q2,q3,q4,q5,q6,fq⟩:=Q2.out;clear hJ hO hw HO k5 ho5 cv
    go_wp2_with fail
    exact bodyPost_ret (v:=a0s 0 0 0 c7N c7N c7N c7N) (by simp[results,Tryz.results172,go_sem,a0s,c7N,q0,q1,q2,q3,q4,q5,q6]) rfl (by rw[E9.out];exact HF.out)
theorem g2c(args:Array Value)(w:World):(callFunc 237 args).run Tryz.prog w=.ok (.enter 237 args) w:=by kernel_rfl
theorem f2f(h:DD w d s xs F){lt:ByteArray}(hn:5<n)(z2:ut.size<=160)(z3:lt.size<=160)(z4:ft.size<=160)(z5:tt.size<=160)(hu:0<=b4g ut 1 7/\b4g ut 1 7<=9)(hlo:0<=b4g lt 1 7/\b4g lt 1 7<=1048320)(hfr:0<=g2T ft/\g2T ft<=1048320)(h1:w.cell? ⟨g,1,none⟩=some (.string name))(h2:w.cell? ⟨g,2,none⟩=some (.string ut))(h3:w.cell? ⟨g,3,none⟩=some (.string lt))(h4:w.cell? ⟨g,4,none⟩=some (.string ft))(h5:w.cell? ⟨g,5,none⟩=some (.string tt)):
  Calls Tryz.prog 178 #[.pointer (some ⟨d,0,none⟩),.slice (some ⟨g,0,none⟩) n c] w (d1S w d F xs (a0g s (.find name (b4g ut 1 7) (b4g lt 1 7) (g2T ft) (g2T tt)))):=by
 have P0:=a0b ((KP.nil w).alloc a0f);have H:=a0b h;have i1:(1:Int)<(n:Int):=by omega
 have i2:(2:Int)<(n:Int):=by omega
 have i3:(3:Int)<(n:Int):=by omega
 have i4:(4:Int)<(n:Int):=by omega
 have i5:(5:Int)<(n:Int):=by omega
 have y2:=a0a P0.out.bl h2;have N1:=a0b (fun wx=>b0E ut 1 7 wx z2 (by omega) (by omega));have N2:=a0b (fun wx=>b0E lt 1 7 wx z3 (by omega) (by omega));have T1:=a0b (fun wx=>d0T ft wx z4);have T2:=a0b (fun wx=>d0T tt wx z5);have HD:Hid (a0g s (.find name (b4g ut 1 7) (b4g lt 1 7) (g2T ft) (g2T tt))=if Desk.a0S s.ts name (b4g ut 1 7)≠0 then (s,.error (Desk.a0S s.ts name (b4g ut 1 7))) else if g2T tt<=g2T ft then (s,.error 6) else (s,.num (Desk.a9A s.ts s.es name (b4g ut 1 7) (b4g lt 1 7) (g2T ft) (g2T tt)))):=rfl;clear h
 go_enter Tryz.func178,Tryz.ntmps178
 go_upto_region 1 with fail
 change Code.wp _ _ _ _ (w.alloc a0f);generalize w.alloc a0f=X at *;generalize a0g s _=D at *;generalize b4g ut 1 7=u at *;generalize b4g lt 1 7=lo at *;generalize g2T ft=fr at *;generalize g2T tt=til at *
 go_wp2_with fail
 refine (N1.out _).mono ?_;rintro e w1 ⟨rfl,hb⟩;replace P0:=a0b (P0.out.later hb);have y4:=a0a P0.out.bl h4;clear hb y2
 go_wp2_with fail
 refine (T1.out _).mono ?_;rintro e w2 ⟨rfl,hb⟩;replace P0:=a0b (P0.out.later hb);have y5:=a0a P0.out.bl h5;clear hb y4
 go_wp2_with fail
 refine (T2.out _).mono ?_;rintro e w3 ⟨rfl,hb⟩;replace P0:=a0b (P0.out.later hb);have y1:=a0a P0.out.bl h1;have y3:=a0a P0.out.bl h3;clear hb y5 N1 T1 T2 X;have D0:=a0b (H.out.later P0.out.bl);have AK:=a0b (D0.out.asked name u);have hQ:w.heap.size<w3.heap.size:=P0.out.lt (q:=(w.heap.size,a0f)) (by simp);have Q1:=a0b (Q7.of (P0.out.kb (w.heap.size,a0f) (by simp)));generalize Desk.a0S s.ts name u=an at *
 go_wp2_with fail
 refine AK.out.mono ?_;rintro e w4 ⟨rfl,rfl⟩;clear AK
 have ERR:Hid (∀ er,D=(s,.error er)->d1S w d F xs D (.returned (a0s er 0 0 c7N c7N c7N c7N)) (a2w w4 w.heap.size (.int .i64 er) (.int .i64 0) (.int .i64 0) c7N c7N c7N c7N)):=fun er e=>by
  rw[e];exact H.out.said P0.out.bl (zq _) er 0 _ _ _ _ _ _ _
 by_cases a1:an=0
 ·subst a1
  by_cases a2:til<=fr
  ·have HF:=a0b (ERR.out 6 (by rw[HD.out];simp[a2]));obtain⟨q0,q1,q2,q3,q4,q5,q6,fq⟩:=Q1.out
   go_wp2_with fail
   exact bodyPost_ret (v:=a0s 6 0 0 c7N c7N c7N c7N) (by simp[results,Tryz.results178,go_sem,a0s,c7N,q0,q1,q2,q3,q4,q5,q6]) rfl HF.out
  ·have E9:Hid (D=(s,.num (Desk.a9A s.ts s.es name u lo fr til))):=by show _=_;rw[HD.out,if_neg (by simp),if_neg a2]
   have FN:Hid (∀ wx,Below w4.heap.size w4 wx->Calls Tryz.prog 237 #[.pointer (some ⟨d,0,none⟩),.string name,.int .i64 u,.int .i64 lo,.int .i64 fr,.int .i64 til] wx fun e w'=>e=.returned (.int .i64 (Desk.a9A s.ts s.es name u lo fr til))/\Below wx.heap.size wx w'):=fun wx k=>(D0.out.later k).find name u lo fr til hu.1 hu.2 hlo.1 (by omega) hfr.1 (by omega)
   have AF:Hid (∀ wx,Below w4.heap.size w4 wx->Q7 wx w.heap.size/\d1S w d F xs D (.returned (a0s 0 0 (Desk.a9A s.ts s.es name u lo fr til) c7N c7N c7N c7N)) (a2w wx w.heap.size (.int .i64 0) (.int .i64 0) (.int .i64 (Desk.a9A s.ts s.es name u lo fr til)) c7N c7N c7N c7N)):=fun wx k=>⟨Q1.out.later (k.block _ hQ),by rw[E9.out];exact H.out.said (a0j P0.out.bl k (zq _)) (zq _) 0 _ _ _ _ _ _ _ _⟩
   generalize Desk.a9A s.ts s.es name u lo fr til=fv at *;clear ERR E9 HD
   go_upto_region 9 with fail
   go_region_law (first
    |(refine a2k (by rfl) 126 _ _ (by rfl) _ (by simp[Act.eval]) (e4W _ _) (N2.out _) ?_;rintro e w5 ⟨rfl,hb5⟩;refine⟨_,rfl,?_⟩;have kb5:Below w4.heap.size w4 w5:=a0j (a0q w4) hb5 (zq _);have y15:=a0a kb5 y1;clear hb5)
    |(refine a2k (by rfl) 237 _ _ (by rfl) _ (by simp[Act.eval]) (g2c _ _) (FN.out _ kb5) ?_;rintro e w6 ⟨rfl,hb6⟩;refine⟨_,rfl,?_⟩;have FF:=a0b (AF.out w6 (a0j kb5 hb6 (zq _)));obtain⟨⟨q0,q1,q2,q3,q4,q5,q6,fq⟩,_⟩:=FF.out;clear hb6))
   all_goals
    go_wp2_with fail
    exact bodyPost_ret (v:=a0s 0 0 fv c7N c7N c7N c7N) (by simp[results,Tryz.results178,go_sem,a0s,c7N,q0,q1,q2,q3,q4,q5,q6]) rfl FF.out.2
 ·have HF:=a0b (ERR.out an (by rw[HD.out,if_pos a1]));have a1':(an==0)=false:=by simpa using a1
  have a1'':(an != 0)=true:=by simpa using a1
  obtain⟨q0,q1,q2,q3,q4,q5,q6,fq⟩:=Q1.out;clear a1
  go_wp2_with fail
  exact bodyPost_ret (v:=a0s an 0 0 c7N c7N c7N c7N) (by simp[results,Tryz.results178,go_sem,a0s,c7N,q0,q1,q2,q3,q4,q5,q6]) rfl HF.out
end Go.Proofs.YtfigmlfdnickmaaGreatDoor
