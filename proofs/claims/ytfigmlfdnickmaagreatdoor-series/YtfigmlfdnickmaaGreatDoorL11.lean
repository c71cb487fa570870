import Derived.Test.YtfigmlfdnickmaaGreatDoorL10
import Derived.Test.YtfigmlfdnickmaaGreatDoorShelf
import Derived.Deep.QuietTactic
import Derived.BigQuiet
import Derived.Lib.SmallJoins
set_option maxRecDepth 100000
set_option maxHeartbeats 8000000
variable{c d wr:Bool}{s:ByteArray}{a b:Int}{ws:List ByteArray}{A R hi lo n nx:Nat}{w w' wx:Go.World}
namespace Go.Proofs.YtfigmlfdnickmaaGreatDoor
open Go.RowKit
theorem early(n z:Int)(h:0<=n+(738885-Cal.ah z)\/z=1)(g:n+(738885-Cal.ah z)<0):n < -738885\/2913173<n:=by
 rcases h with h|h
 ·omega
 ·subst h;have:=Cal.g3J;omega
theorem late(n z:Int)(h:z=9999)(e:Cal.ah (z+1)=Cal.ah z+365+Cal.lp z)(g:365+Cal.lp z<=n+(738885-Cal.ah z)):n < -738885\/2913173<n:=by
 subst h;have:=Cal.b7t;rw[show (9999:Int)+1=10000 from rfl] at e;omega
theorem e6M(n y k:Int):Cal.num y k (n+(738885-Cal.ah y)-Cal.cum y k+1)=n:=by unfold Cal.num Cal.first;omega
theorem inside(n z m:Int)(h:Cal.ok z m (n+(738885-Cal.ah z)-Cal.cum z m+1)=true):¬ (n < -738885\/2913173<n):=by
 have b:=Cal.c3X _ _ _ h;rw[e6M] at b;unfold Cal.first Cal.last at b;omega
theorem e6D(n:Int)(w:World)(h1:-9223372036854775808<=n)(h2:n<=9223372036854775807):
  Calls Tryz.prog 73 #[.int .i64 n] w fun e w'=>((n < -738885\/2913173<n)/\e=.returned (.tuple #[.int .i64 0,.int .i64 0,.int .i64 0,.int .i64 6])\/(¬ (n < -738885\/2913173<n))/\∃ y m d:Int,e=.returned (.tuple #[.int .i64 y,.int .i64 m,.int .i64 d,.int .i64 0])/\Cal.ok y m d=true/\Cal.num y m d=n)/\w'=w:=by
 go_enter Tryz.func73,Tryz.ntmps73
 go_wp2
 go_loop [0,6,7] (fun t k _=>∃ y:Int,1<=y/\y<=2024/\k=.int .i64 y/\t=.int .i64 (n+(738885-Cal.ah y))/\n+(738885-Cal.ah y)<=9223372036854775807) (fun _ k _=>(intOf k).toNat)
 case atStart=>exact⟨2024,by omega,by omega,rfl,by rw[d9w];go_num,by rw[d9w];omega⟩
 case round =>
  obtain⟨y,hy1,hy2,rfl,rfl,hyt⟩:=hrel;have yb:=Cal.c5D y hy1 (by omega);have ym:=Cal.a9T y 2024 hy1 hy2;rw[d9w] at ym
  by_cases hn:n+(738885-Cal.ah y)<0/\1<y
  ·obtain⟨hn,hy⟩:=hn;have ys:=Cal.b5I (y-1) (by omega);rw[show y-1+1=y from by omega] at ys;have yl:=Cal.c4Z (y-1);have HY:Hid (Cal.ah y=Cal.ah (y-1)+365+Cal.lp (y-1)):=ys;clear ys
   go_wp2_with (go_at_call 115;refine (c9C _ _ (by omega) (by omega)).mono ?_;rintro e w' ⟨rfl,rfl⟩)
   go_round
   case rel=>exact⟨y-1,by omega,by omega,rfl,by have:=HY.out;go_num,by have:=HY.out;omega⟩
   case measure=>simp[intOf];omega
  ·have hz:0<=n+(738885-Cal.ah y)\/y=1:=by omega
   have HZ:Hid (0<=n+(738885-Cal.ah y)\/y=1):=hz;clear hz;have hn0:(n+(738885-Cal.ah y)<0/\¬ 1<y)\/¬ n+(738885-Cal.ah y)<0:=by omega
   clear hn;rcases hn0 with ⟨hn0,hy⟩|hn0
   all_goals
    go_wp2
    go_loop [0,6,8] (fun t k _=>∃ z:Int,1<=z/\z<=9999/\k=.int .i64 z/\t=.int .i64 (n+(738885-Cal.ah z))/\n+(738885-Cal.ah z)<=9223372036854775807/\(0<=n+(738885-Cal.ah z)\/z=1)) (fun _ k _=>(9999-intOf k).toNat)
    case atStart=>exact⟨y,by omega,by omega,rfl,rfl,hyt,HZ.out⟩
    case round =>
     obtain⟨z,hz1,hz2,rfl,rfl,hzt,hz3⟩:=hrel;have HZ3:Hid (0<=n+(738885-Cal.ah z)\/z=1):=hz3;clear hz3 yb ym hn0;have zb:=Cal.c5D z hz1 (by omega);have zl:=Cal.c4Z z;have zs:=Cal.b5I z hz1;have HS:Hid (Cal.ah (z+1)=Cal.ah z+365+Cal.lp z):=zs;clear zs
     by_cases hz9:z<9999
     ·by_cases hge:365+Cal.lp z<=n+(738885-Cal.ah z)
      ·go_wp2_with (go_at_call 115;refine (c9C _ _ (by omega) (by omega)).mono ?_;rintro e w' ⟨rfl,rfl⟩)
       go_round
       case rel=>exact⟨z+1,by omega,by omega,rfl,by have:=HS.out;go_num,by have:=HS.out;omega,by have:=HS.out;omega⟩
       case measure=>simp[intOf];omega
      ·by_cases hneg:n+(738885-Cal.ah z)<0
       ·go_wp2_with (go_at_call 115;refine (c9C _ _ (by omega) (by omega)).mono ?_;rintro e w' ⟨rfl,rfl⟩)
        (try simp only[Exit.inBlock,Exit.then]);refine bodyPost_ret (b2R rfl _ _ _) rfl ?_
        exact⟨Or.inl ⟨early n z HZ3.out hneg,rfl⟩,rfl⟩
       ·go_wp2_with (go_at_call 115;refine (c9C _ _ (by omega) (by omega)).mono ?_;rintro e w' ⟨rfl,rfl⟩)
        go_loop [0,9,10] (fun r k _=>∃ m:Int,1<=m/\m<=12/\k=.int .i64 m/\0<=n+(738885-Cal.ah z)-Cal.cum z m/\r=.int .i64 (n+(738885-Cal.ah z)-Cal.cum z m)) (fun _ k _=>(12-intOf k).toNat)
        case atStart=>exact⟨1,by omega,by omega,rfl,by rw[Cal.a9K];omega,by rw[Cal.a9K,Int.sub_zero]⟩
        case round =>
         obtain⟨m,hm1,hm2,rfl,hr,rfl⟩:=hrel;have cb:=Cal.b7m z m hm1 (by omega);have db:=Cal.b3I z m;have cs:=Cal.a5M z m hm1 hm2;have ce:=Cal.b5q z
         by_cases hd:Cal.dim z m<=n+(738885-Cal.ah z)-Cal.cum z m
         ·have hm:m<12:=by
           by_cases e:m=12
           ·subst e;rw[show (12:Int)+1=13 from rfl] at cs;omega
           ·omega
          have HC:Hid (Cal.cum z (m+1)=Cal.cum z m+Cal.dim z m):=cs;clear cs ce
          go_wp2_with (go_at_call 114;refine (c9Q _ _ _ (by omega) (by omega) (by omega) (by omega)).mono ?_;rintro e w' ⟨rfl,rfl⟩)
          go_round
          case rel=>exact⟨m+1,by omega,by omega,rfl,by rw[HC.out];omega,by rw[HC.out];go_num⟩
          case measure=>simp[intOf];omega
         ·have hok:Cal.ok z m (n+(738885-Cal.ah z)-Cal.cum z m+1)=true:=b9Y (by omega);have hin:¬ (n < -738885\/2913173<n):=inside n z m hok;have HIN:Hid (¬ (n < -738885\/2913173<n)):=hin;clear cs ce hin
          go_wp2_with (go_at_call 114;refine (c9Q _ _ _ (by omega) (by omega) (by omega) (by omega)).mono ?_;rintro e w' ⟨rfl,rfl⟩)
          (try simp only[Exit.inBlock,Exit.then]);refine bodyPost_ret (b2R rfl _ _ _) rfl ?_
          exact⟨Or.inr ⟨HIN.out,z,m,_,rfl,hok,e6M n z m⟩,rfl⟩
     ·by_cases hneg:n+(738885-Cal.ah z)<0
      ·go_wp2
       (try simp only[Exit.inBlock,Exit.then]);refine bodyPost_ret (b2R rfl _ _ _) rfl ?_
       exact⟨Or.inl ⟨early n z HZ3.out hneg,rfl⟩,rfl⟩
      ·by_cases hge:365+Cal.lp z<=n+(738885-Cal.ah z)
       ·go_wp2_with (go_at_call 115;refine (c9C _ _ (by omega) (by omega)).mono ?_;rintro e w' ⟨rfl,rfl⟩)
        (try simp only[Exit.inBlock,Exit.then]);refine bodyPost_ret (b2R rfl _ _ _) rfl ?_
        exact⟨Or.inl ⟨late n z (by omega) HS.out hge,rfl⟩,rfl⟩
       ·go_wp2_with (go_at_call 115;refine (c9C _ _ (by omega) (by omega)).mono ?_;rintro e w' ⟨rfl,rfl⟩)
        go_loop [0,9,10] (fun r k _=>∃ m:Int,1<=m/\m<=12/\k=.int .i64 m/\0<=n+(738885-Cal.ah z)-Cal.cum z m/\r=.int .i64 (n+(738885-Cal.ah z)-Cal.cum z m)) (fun _ k _=>(12-intOf k).toNat)
        case atStart=>exact⟨1,by omega,by omega,rfl,by rw[Cal.a9K];omega,by rw[Cal.a9K,Int.sub_zero]⟩
        case round =>
         obtain⟨m,hm1,hm2,rfl,hr,rfl⟩:=hrel;have cb:=Cal.b7m z m hm1 (by omega);have db:=Cal.b3I z m;have cs:=Cal.a5M z m hm1 hm2;have ce:=Cal.b5q z
         by_cases hd:Cal.dim z m<=n+(738885-Cal.ah z)-Cal.cum z m
         ·have hm:m<12:=by
           by_cases e:m=12
           ·subst e;rw[show (12:Int)+1=13 from rfl] at cs;omega
           ·omega
          have HC:Hid (Cal.cum z (m+1)=Cal.cum z m+Cal.dim z m):=cs;clear cs ce
          go_wp2_with (go_at_call 114;refine (c9Q _ _ _ (by omega) (by omega) (by omega) (by omega)).mono ?_;rintro e w' ⟨rfl,rfl⟩)
          go_round
          case rel=>exact⟨m+1,by omega,by omega,rfl,by rw[HC.out];omega,by rw[HC.out];go_num⟩
          case measure=>simp[intOf];omega
         ·have hok:Cal.ok z m (n+(738885-Cal.ah z)-Cal.cum z m+1)=true:=b9Y (by omega);have hin:¬ (n < -738885\/2913173<n):=inside n z m hok;have HIN:Hid (¬ (n < -738885\/2913173<n)):=hin;clear cs ce hin
          go_wp2_with (go_at_call 114;refine (c9Q _ _ _ (by omega) (by omega) (by omega) (by omega)).mono ?_;rintro e w' ⟨rfl,rfl⟩)
          (try simp only[Exit.inBlock,Exit.then]);refine bodyPost_ret (b2R rfl _ _ _) rfl ?_
          exact⟨Or.inr ⟨HIN.out,z,m,_,rfl,hok,e6M n z m⟩,rfl⟩
theorem hide{p:Prop}(h:p):Hid p:=h
theorem a0d{p:Prop}(h:Hid p):p:=h
theorem Tab.later(h:Tab w)(hb:Below w.heap.size w wx):Tab wx:=by
 obtain⟨c0,c1,c2,c3,c4,c5,c6,c7,c8,c9,c10,c11⟩:=h;exact⟨cell_later hb c0,cell_later hb c1,cell_later hb c2,cell_later hb c3,cell_later hb c4,cell_later hb c5,cell_later hb c6,cell_later hb c7,cell_later hb c8,cell_later hb c9,cell_later hb c10,cell_later hb c11⟩
theorem a0A{k:IntKind}(h:a=b)(g:c=d):Ending.returned (.tuple #[.int k a,.bool c])=.returned (.tuple #[.int k b,.bool d]):=by rw[h,g]
theorem a0m(s:ByteArray)(w:World)(hs:s.size<=maxLen):
  Calls Tryz.prog 139 #[.string s] w fun e w'=>e=.returned (.tuple #[.int .i64 (Txt.a2f s.data.toList),.bool (Txt.isNum s.data.toList)])/\w'=w:=by
 unfold maxLen at hs
 by_cases h0:s.size=0
 ·have H:Hid (Txt.isNum s.data.toList=false):=Txt.b3o (by rw[Txt.a1d];omega);have h1:((s.size:Int)==0)=true:=beq_iff_eq.2 (by omega)
  go_enter Tryz.func139,Tryz.ntmps139
  go_wp2;go_ret2;exact⟨a0A (by simp[Txt.a2f,H.out]) (by rw[H.out]),rfl⟩
 ·have h1:((s.size:Int)==0)=false:=beq_eq_false_iff_ne.2 (by omega)
  by_cases h7:7<s.size
  ·have H:Hid (Txt.isNum s.data.toList=false):=Txt.b3o (by rw[Txt.a1d];omega);clear h0
   go_enter Tryz.func139,Tryz.ntmps139
   go_wp2;go_ret2;exact⟨a0A (by simp[Txt.a2f,H.out]) (by rw[H.out]),rfl⟩
  ·go_enter Tryz.func139,Tryz.ntmps139
   go_wp2
   go_loop [4,5,6] (fun n i _=>∃ k:Nat,k<=s.size/\i=.int .i64 k/\n=.int .i64 (Txt.b4R (s.data.toList.take k))/\Txt.a6j (s.data.toList.take k)=true) (fun _ i _=>s.size-(intOf i).toNat)
   case atStart=>exact⟨0,Nat.zero_le _,rfl,rfl,rfl⟩
   case round =>
    obtain⟨k,hk,rfl,rfl,hd⟩:=hrel;have HD:=hide hd;have nb:=Txt.c0i (s.data.toList.take k) hd (by rw[List.length_take];omega);clear hd
    by_cases hlt:k<s.size
    ·have HT:Hid (s.data.toList.take (k+1)=s.data.toList.take k++[s[k]]):=Txt.a8N s k hlt
     by_cases hc:Txt.dig s[k]=true
     ·have hc':=(Txt.a6k _).1 hc;have HC:=hide hc;obtain⟨hc1,hc2⟩:=hc';clear hc;go_wp2
      go_round
      case rel=>exact⟨k+1,by omega,by go_num,by rw[HT.out,Txt.b2Y],by rw[HT.out,Txt.a6X,HD.out,HC.out];rfl⟩
      case measure=>simp[intOf];omega
     ·have HC:Hid (Txt.isNum s.data.toList=false):=Txt.b3q (Txt.a8h _ (k+1) (by rw[HT.out,Txt.a6X,HD.out];simpa using hc))
      have hc':(s[k].toNat:Int)<48\/(¬ (s[k].toNat:Int)<48/\57<(s[k].toNat:Int)):=by
       have:=mt (Txt.a6k s[k]).2 hc;omega
      clear hc;rcases hc' with hc' |⟨hc',hc''⟩
      all_goals
       go_wp2;go_ret2;exact⟨a0A (by simp[Txt.a2f,HC.out]) (by rw[HC.out]),rfl⟩
    ·have HA:Hid (s.data.toList.take k=s.data.toList):=Txt.a5t s k (by omega);have HN:Hid (Txt.isNum s.data.toList=true):=Txt.b0J (by rw[Txt.a1d];omega) (by rw[Txt.a1d];omega) (by rw[<- HA.out];exact HD.out);go_wp2;go_ret2;exact⟨a0A (by rw[HA.out];simp[Txt.a2f,HN.out]) (by rw[HN.out]),rfl⟩
theorem b5y(h:a≠b):(a != b)=true:=by rw[bne_iff_ne];exact h
theorem b5z(h:a=b):(a != b)=false:=by subst h;simp
theorem a0P(s:ByteArray)(a b:Nat)(h:s.size<=maxLen):(s.extract a b).size<=maxLen:=by
 have:(s.extract a b).size=min b s.size-a:=ByteArray.size_extract ..;omega
theorem a2m(s:ByteArray)(w:World)(hm:s.size<=maxLen):
  Calls Tryz.prog 137 #[.string s] w fun e w'=>e=.returned (.tuple #[.int .i64 (Txt.a6J s),.bool (Txt.a3a s)])/\w'=w:=by
 have HM:=hide hm;clear hm
 by_cases hs:s.size=5
 ·have h5:((s.size:Int) != 5)=false:=b5z (by omega);have h6:(2:Int)<(s.size:Int):=by omega
  have h2n:2<s.size:=by omega
  have h7:(3:Int)<=(s.size:Int):=by omega
  by_cases hb:Txt.a0V s 2=58
  ·have hc:(((s[2]'h2n).toNat:Int) != 58)=false:=b5z (by rw[<- Txt.a2W];exact hb);have b1:=Txt.a2B (Txt.part s 0 2);have b2:=Txt.a2B (Txt.part s 3 5);have HS:=hide hs;have HB:=hide hb;clear hs hb;have HF:=hide (Txt.b6G HS.out HB.out)
   cases n1:Txt.isNum (Txt.part s 0 2)
   ·go_enter Tryz.func137,Tryz.ntmps137
    go_wp2_with fail
    refine (a0m _ _ (a0P _ _ _ HM.out)).mono ?_;rintro e w' ⟨rfl,rfl⟩;rw[show (s.extract 0 2).data.toList=Txt.part s 0 2 from rfl]
    go_wp2_with fail
    refine (a0m _ _ (a0P _ _ _ HM.out)).mono ?_;rintro e w' ⟨rfl,rfl⟩;rw[show (s.extract 3 s.size).data.toList=Txt.part s 3 5 from by rw[HS.out];rfl];go_wp2;go_ret2;exact⟨a0A (by simp[Txt.a6J,a0d HF,n1]) (by simp[a0d HF,n1]),rfl⟩
   ·cases n2:Txt.isNum (Txt.part s 3 5)
    ·go_enter Tryz.func137,Tryz.ntmps137
     go_wp2_with fail
     refine (a0m _ _ (a0P _ _ _ HM.out)).mono ?_;rintro e w' ⟨rfl,rfl⟩;rw[show (s.extract 0 2).data.toList=Txt.part s 0 2 from rfl]
     go_wp2_with fail
     refine (a0m _ _ (a0P _ _ _ HM.out)).mono ?_;rintro e w' ⟨rfl,rfl⟩;rw[show (s.extract 3 s.size).data.toList=Txt.part s 3 5 from by rw[HS.out];rfl];go_wp2;go_ret2;exact⟨a0A (by simp[Txt.a6J,a0d HF,n1,n2]) (by simp[a0d HF,n1,n2]),rfl⟩
    ·by_cases g1:Txt.a2f (Txt.part s 0 2)<=23
     ·by_cases g2:Txt.a2f (Txt.part s 3 5)<=59
      ·go_enter Tryz.func137,Tryz.ntmps137
       go_wp2_with fail
       refine (a0m _ _ (a0P _ _ _ HM.out)).mono ?_;rintro e w' ⟨rfl,rfl⟩;rw[show (s.extract 0 2).data.toList=Txt.part s 0 2 from rfl]
       go_wp2_with fail
       refine (a0m _ _ (a0P _ _ _ HM.out)).mono ?_;rintro e w' ⟨rfl,rfl⟩;rw[show (s.extract 3 s.size).data.toList=Txt.part s 3 5 from by rw[HS.out];rfl];go_wp2;go_ret2;exact⟨a0A (by simp[Txt.a6J,a0d HF,n1,n2,g1,g2]) (by simp[a0d HF,n1,n2,g1,g2]),rfl⟩
      ·go_enter Tryz.func137,Tryz.ntmps137
       go_wp2_with fail
       refine (a0m _ _ (a0P _ _ _ HM.out)).mono ?_;rintro e w' ⟨rfl,rfl⟩;rw[show (s.extract 0 2).data.toList=Txt.part s 0 2 from rfl]
       go_wp2_with fail
       refine (a0m _ _ (a0P _ _ _ HM.out)).mono ?_;rintro e w' ⟨rfl,rfl⟩;rw[show (s.extract 3 s.size).data.toList=Txt.part s 3 5 from by rw[HS.out];rfl];go_wp2;go_ret2;have g2':¬ Txt.a2f (Txt.part s 3 5)<=59:=by omega
       exact⟨a0A (by simp[Txt.a6J,a0d HF,n1,n2,g1,g2']) (by simp[a0d HF,n1,n2,g1,g2']),rfl⟩
     ·go_enter Tryz.func137,Tryz.ntmps137
      go_wp2_with fail
      refine (a0m _ _ (a0P _ _ _ HM.out)).mono ?_;rintro e w' ⟨rfl,rfl⟩;rw[show (s.extract 0 2).data.toList=Txt.part s 0 2 from rfl]
      go_wp2_with fail
      refine (a0m _ _ (a0P _ _ _ HM.out)).mono ?_;rintro e w' ⟨rfl,rfl⟩;rw[show (s.extract 3 s.size).data.toList=Txt.part s 3 5 from by rw[HS.out];rfl];go_wp2;go_ret2;have g1':¬ Txt.a2f (Txt.part s 0 2)<=23:=by omega
      exact⟨a0A (by simp[Txt.a6J,a0d HF,n1,n2,g1']) (by simp[a0d HF,n1,n2,g1']),rfl⟩
  ·have hc:(((s[2]'h2n).toNat:Int) != 58)=true:=b5y (by rw[<- Txt.a2W];exact hb);have HF:Hid (Txt.a3a s=false):=Txt.a5D (by omega);clear hs hb
   go_enter Tryz.func137,Tryz.ntmps137
   go_wp2;go_ret2;exact⟨a0A (by simp[Txt.a6J,HF.out]) (by rw[HF.out]),rfl⟩
 ·have h5:((s.size:Int) != 5)=true:=b5y (by omega);have HF:Hid (Txt.a3a s=false):=Txt.a5D (by omega);clear hs
  go_enter Tryz.func137,Tryz.ntmps137
  go_wp2;go_ret2;exact⟨a0A (by simp[Txt.a6J,HF.out]) (by rw[HF.out]),rfl⟩
theorem a1U(s:ByteArray)(w:World)(ht:Tab w)(hm:s.size<=maxLen):
  Calls Tryz.prog 195 #[.string s] w fun e w'=>e=.returned (.tuple #[.int .i64 (Txt.a2o s),.bool (Txt.a5j s)])/\w'=w:=by
 have HM:=hide hm;clear hm
 by_cases hs:s.size=10
 ·have h5:((s.size:Int) != 10)=false:=b5z (by omega);have h4n:4<s.size:=by omega
  have h7n:7<s.size:=by omega
  have h4:(4:Int)<(s.size:Int):=by omega
  have h7:(7:Int)<(s.size:Int):=by omega
  have h8:(8:Int)<=(s.size:Int):=by omega
  by_cases hb:Txt.a0V s 4=45
  ·have hc:(((s[4]'h4n).toNat:Int) != 45)=false:=b5z (by rw[<- Txt.a2W];exact hb)
   by_cases hd:Txt.a0V s 7=45
   ·have he:(((s[7]'h7n).toNat:Int) != 45)=false:=b5z (by rw[<- Txt.a2W];exact hd);have b1:=Txt.a2B (Txt.part s 0 4);have b2:=Txt.a2B (Txt.part s 5 7);have b3:=Txt.a2B (Txt.part s 8 10);have HF:=hide (Txt.c1h hs hb hd);have HS:=hide hs;clear hs hb hd;have hn:∃ n1 n2 n3:Bool,Txt.isNum (Txt.part s 0 4)=n1/\Txt.isNum (Txt.part s 5 7)=n2/\Txt.isNum (Txt.part s 8 10)=n3:=⟨_,_,_,rfl,rfl,rfl⟩;obtain⟨n1,n2,n3,e1,e2,e3⟩:=hn;have walk3:n1=false\/(n1=true/\n2=false)\/(n1=true/\n2=true/\n3=false)\/(n1=true/\n2=true/\n3=true):=by cases n1 <;> cases n2 <;> cases n3 <;> simp
    rcases walk3 with h|⟨h,h'⟩|⟨h,h',h''⟩|⟨h,h',h''⟩
    ·subst h;clear e2 e3
     go_enter Tryz.func195,Tryz.ntmps195
     go_wp2_with fail
     refine (a0m _ _ (a0P _ _ _ HM.out)).mono ?_;rintro e w' ⟨rfl,rfl⟩;rw[show (s.extract 0 4).data.toList=Txt.part s 0 4 from rfl]
     go_wp2_with fail
     refine (a0m _ _ (a0P _ _ _ HM.out)).mono ?_;rintro e w' ⟨rfl,rfl⟩;rw[show (s.extract 5 7).data.toList=Txt.part s 5 7 from rfl]
     go_wp2_with fail
     refine (a0m _ _ (a0P _ _ _ HM.out)).mono ?_;rintro e w' ⟨rfl,rfl⟩;rw[show (s.extract 8 s.size).data.toList=Txt.part s 8 10 from by rw[HS.out];rfl];go_wp2;go_ret2;exact⟨a0A (by simp[Txt.a2o,a0d HF,e1]) (by simp[a0d HF,e1]),rfl⟩
    ·subst h h';clear e3
     go_enter Tryz.func195,Tryz.ntmps195
     go_wp2_with fail
     refine (a0m _ _ (a0P _ _ _ HM.out)).mono ?_;rintro e w' ⟨rfl,rfl⟩;rw[show (s.extract 0 4).data.toList=Txt.part s 0 4 from rfl]
     go_wp2_with fail
     refine (a0m _ _ (a0P _ _ _ HM.out)).mono ?_;rintro e w' ⟨rfl,rfl⟩;rw[show (s.extract 5 7).data.toList=Txt.part s 5 7 from rfl]
     go_wp2_with fail
     refine (a0m _ _ (a0P _ _ _ HM.out)).mono ?_;rintro e w' ⟨rfl,rfl⟩;rw[show (s.extract 8 s.size).data.toList=Txt.part s 8 10 from by rw[HS.out];rfl];go_wp2;go_ret2;exact⟨a0A (by simp[Txt.a2o,a0d HF,e1,e2]) (by simp[a0d HF,e1,e2]),rfl⟩
    ·subst h h' h''
     go_enter Tryz.func195,Tryz.ntmps195
     go_wp2_with fail
     refine (a0m _ _ (a0P _ _ _ HM.out)).mono ?_;rintro e w' ⟨rfl,rfl⟩;rw[show (s.extract 0 4).data.toList=Txt.part s 0 4 from rfl]
     go_wp2_with fail
     refine (a0m _ _ (a0P _ _ _ HM.out)).mono ?_;rintro e w' ⟨rfl,rfl⟩;rw[show (s.extract 5 7).data.toList=Txt.part s 5 7 from rfl]
     go_wp2_with fail
     refine (a0m _ _ (a0P _ _ _ HM.out)).mono ?_;rintro e w' ⟨rfl,rfl⟩;rw[show (s.extract 8 s.size).data.toList=Txt.part s 8 10 from by rw[HS.out];rfl];go_wp2;go_ret2;exact⟨a0A (by simp[Txt.a2o,a0d HF,e1,e2,e3]) (by simp[a0d HF,e1,e2,e3]),rfl⟩
    ·subst h h' h''
     cases ho:Cal.ok (Txt.a2f (Txt.part s 0 4)) (Txt.a2f (Txt.part s 5 7)) (Txt.a2f (Txt.part s 8 10))
     ·go_enter Tryz.func195,Tryz.ntmps195
      go_wp2_with fail
      refine (a0m _ _ (a0P _ _ _ HM.out)).mono ?_;rintro e w' ⟨rfl,rfl⟩;rw[show (s.extract 0 4).data.toList=Txt.part s 0 4 from rfl]
      go_wp2_with fail
      refine (a0m _ _ (a0P _ _ _ HM.out)).mono ?_;rintro e w' ⟨rfl,rfl⟩;rw[show (s.extract 5 7).data.toList=Txt.part s 5 7 from rfl]
      go_wp2_with fail
      refine (a0m _ _ (a0P _ _ _ HM.out)).mono ?_;rintro e w' ⟨rfl,rfl⟩;rw[show (s.extract 8 s.size).data.toList=Txt.part s 8 10 from by rw[HS.out];rfl]
      go_wp2_with fail
      refine (a9O _ _ _ _ ht ho).mono ?_;rintro e w' ⟨rfl,rfl⟩;go_wp2;go_ret2;exact⟨a0A (by simp[Txt.a2o,a0d HF,e1,e2,e3,ho]) (by simp[a0d HF,e1,e2,e3,ho]),rfl⟩
     ·go_enter Tryz.func195,Tryz.ntmps195
      go_wp2_with fail
      refine (a0m _ _ (a0P _ _ _ HM.out)).mono ?_;rintro e w' ⟨rfl,rfl⟩;rw[show (s.extract 0 4).data.toList=Txt.part s 0 4 from rfl]
      go_wp2_with fail
      refine (a0m _ _ (a0P _ _ _ HM.out)).mono ?_;rintro e w' ⟨rfl,rfl⟩;rw[show (s.extract 5 7).data.toList=Txt.part s 5 7 from rfl]
      go_wp2_with fail
      refine (a0m _ _ (a0P _ _ _ HM.out)).mono ?_;rintro e w' ⟨rfl,rfl⟩;rw[show (s.extract 8 s.size).data.toList=Txt.part s 8 10 from by rw[HS.out];rfl]
      go_wp2_with fail
      refine (a7P _ _ _ _ ht ho).mono ?_;rintro e w' ⟨rfl,rfl⟩;go_wp2;go_ret2;exact⟨a0A (by simp[Txt.a2o,a0d HF,e1,e2,e3,ho]) (by simp[a0d HF,e1,e2,e3,ho]),rfl⟩
   ·have he:(((s[7]'h7n).toNat:Int) != 45)=true:=b5y (by rw[<- Txt.a2W];exact hd);have HF:Hid (Txt.a5j s=false):=Txt.a6l (by omega);clear hs hb hd
    go_enter Tryz.func195,Tryz.ntmps195
    go_wp2;go_ret2;exact⟨a0A (by simp[Txt.a2o,HF.out]) (by rw[HF.out]),rfl⟩
  ·have hc:(((s[4]'h4n).toNat:Int) != 45)=true:=b5y (by rw[<- Txt.a2W];exact hb);have HF:Hid (Txt.a5j s=false):=Txt.a6l (by omega);clear hs hb
   go_enter Tryz.func195,Tryz.ntmps195
   go_wp2;go_ret2;exact⟨a0A (by simp[Txt.a2o,HF.out]) (by rw[HF.out]),rfl⟩
 ·have h5:((s.size:Int) != 10)=true:=b5y (by omega);have HF:Hid (Txt.a5j s=false):=Txt.a6l (by omega);clear hs
  go_enter Tryz.func195,Tryz.ntmps195
  go_wp2;go_ret2;exact⟨a0A (by simp[Txt.a2o,HF.out]) (by rw[HF.out]),rfl⟩
structure Kept(R:Nat)(w w':World):Prop where
 os:w'.os=w.os
 tape:w'.tape=w.tape
 output:w'.output=w.output
 size:w.heap.size<=w'.heap.size
 block:∀ k,k<w.heap.size->k≠R->w'.heap[k]?=w.heap[k]?
theorem Kept.refl(R:Nat)(w:World):Kept R w w:=⟨rfl,rfl,rfl,Nat.le_refl _,fun _ _ _=>rfl⟩
theorem Kept.trans{a b c:World}(h:Kept R a b)(k:Kept R b c):Kept R a c :=
 ⟨k.os.trans h.os,k.tape.trans h.tape,k.output.trans h.output,Nat.le_trans h.size k.size,fun i hi hr=>(k.block i (zL hi h.size) hr).trans (h.block i hi hr)⟩
theorem Kept.of_below(h:Below w.heap.size w w'):Kept R w w':=⟨h.os,h.tape,h.output,h.size,fun k hk _=>h.block k hk⟩
theorem Kept.drewN(h:Kept R w w')(n:Nat):Kept R w (w'.drewN n):=⟨h.os,h.tape,h.output,h.size,h.block⟩
theorem Kept.setCell(h:Kept R w w')(o:Nat)(v:Value):Kept R w (w'.setCell ⟨R,o,none⟩ v) :=
 h.trans ⟨(Below.setCell (B:=0) (Below.refl 0 w') (zN _) v).os,(Below.setCell (B:=0) (Below.refl 0 w') (zN _) v).tape,(Below.setCell (B:=0) (Below.refl 0 w') (zN _) v).output,(Below.setCell (B:=0) (Below.refl 0 w') (p:=⟨R,o,none⟩) (zN _) v).size,fun k _ hr=>Below.heap_setCell w' _ v k hr⟩
theorem Kept.below{B:Nat}(h:Kept R w w')(hr:B<=R)(hb:B<=w.heap.size):Below B w w' :=
 ⟨h.os,h.tape,h.output,h.size,fun k hk=>h.block k (zL hk hb) (Nat.ne_of_lt (zL hk hr))⟩
theorem Kept.cell(h:Kept R w w'){b o:Nat}{v:Value}(hne:b≠R)(hc:w.cell? ⟨b,o,none⟩=some v):w'.cell? ⟨b,o,none⟩=some v :=
 (zo (w:=w) (h.block b (World.block_lt_of_cell? _ _ hc) hne)).trans hc
structure RS(w:World)(R A:Nat)(ws:List ByteArray)(nx:Nat)(wr:Bool):Prop where
 c0:w.cell? ⟨R,0,none⟩=some (.slice (some ⟨A,0,none⟩) ws.length ws.length)
 c1:w.cell? ⟨R,1,none⟩=some (.int .i64 nx)
 c2:w.cell? ⟨R,2,none⟩=some (.bool wr)
 f1:w.frozen? ⟨R,1,none⟩=false
 f2:w.frozen? ⟨R,2,none⟩=false
 ne:A≠R
 rows:∀ (i:Nat) (h:i<ws.length),w.cell? ⟨A,i,none⟩=some (.string ws[i])
 len:ws.length<=160
 c6c:nx<=ws.length
 short:∀ x∈ws,x.size<=160
theorem RS.of_below(h:RS w R A ws nx wr)(hb:Below w.heap.size w w'):RS w' R A ws nx wr :=
 ⟨cell_later hb h.c0,cell_later hb h.c1,cell_later hb h.c2,(hb.frozen (World.block_lt_of_cell? _ _ h.c1)).trans h.f1,(hb.frozen (World.block_lt_of_cell? _ _ h.c2)).trans h.f2,h.ne,fun i hi=>cell_later hb (h.rows i hi),h.len,h.c6c,h.short⟩
theorem RS.drewN(h:RS w R A ws nx wr)(n:Nat):RS (w.drewN n) R A ws nx wr:=⟨h.c0,h.c1,h.c2,h.f1,h.f2,h.ne,h.rows,h.len,h.c6c,h.short⟩
def a1b(n nx:Nat)(wr:Bool):Bool:=!wr && decide (nx<n)
theorem a0X(R A:Nat)(ws:List ByteArray)(nx:Nat)(wr:Bool)(w:World)(h:RS w R A ws nx wr):
  Calls Tryz.prog 63 #[.pointer (some ⟨R,0,none⟩)] w fun e w'=>e=.returned (.bool (a1b ws.length nx wr))/\∃ n,w'=w.drewN n:=by
 have c0:=h.c0;have c1:=h.c1;have c2:=h.c2;clear h
 cases wr
 ·go_enter Tryz.func63,Tryz.ntmps63
  go_wp2
  go_quiet (fail)
  go_wp2;go_ret;exact⟨a2a (by simp[a1b]),_,rfl⟩
 ·go_enter Tryz.func63,Tryz.ntmps63
  go_wp2
  go_quiet (fail)
  go_wp2;go_ret;exact⟨a2a (by simp[a1b]),_,rfl⟩
theorem a9d(h:¬ (wr=false/\nx<n)):a1b n nx wr=false:=by
 unfold a1b
 cases wr
 ·simp;simp at h;exact h
 ·rfl
theorem c6l(R A:Nat)(ws:List ByteArray)(nx:Nat)(wr:Bool)(word:ByteArray)(w:World)(h:RS w R A ws nx wr)(hn:a1b ws.length nx wr=false):
  Calls Tryz.prog 82 #[.pointer (some ⟨R,0,none⟩),.string word] w fun e w'=>e=.returned (.bool false)/\∃ n,w'=w.drewN n:=by
 go_enter Tryz.func82,Tryz.ntmps82
 go_wp2
 go_quiet ((go_at_call 63;exact Calls.quiet_of (a0X R A ws nx wr _ (h.drewN _))))
 go_wp2;go_ret;exact⟨rfl,_,rfl⟩
theorem c2Z(R A:Nat)(ws:List ByteArray)(nx:Nat)(wr:Bool)(word:ByteArray)(w:World)(h:RS w R A ws nx wr)(hn:a1b ws.length nx wr=true)(hlt:nx<ws.length)(he:(ws[nx].toList==word.toList)=false):
  Calls Tryz.prog 82 #[.pointer (some ⟨R,0,none⟩),.string word] w fun e w'=>e=.returned (.bool false)/\∃ n,w'=w.drewN n:=by
 have c0:=h.c0;have c1:=h.c1;have c2:=h.c2;have cr:=h.rows nx hlt;have hi:(nx:Int)<(ws.length:Int):=by omega
 go_enter Tryz.func82,Tryz.ntmps82
 go_wp2
 go_quiet ((go_at_call 63;exact Calls.quiet_of (a0X R A ws nx wr _ (h.drewN _))))
 go_wp2;go_ret;exact⟨rfl,_,rfl⟩
theorem RS.step(h:RS w R A ws nx wr)(hlt:nx<ws.length):RS (w.setCell ⟨R,1,none⟩ (.int .i64 ((nx:Int)+1))) R A ws (nx+1) wr :=
 ⟨(zS _ _ _ _ (by simp)).trans h.c0,World.cell?_setCell_same _ _ _ h.c1,(zS _ _ _ _ (by simp)).trans h.c2,(zF ..).trans h.f1,(zF ..).trans h.f2,h.ne,
  fun i hi=>(zS _ _ _ _ (by simp;intro e;exact absurd e.symm h.ne)).trans (h.rows i hi),h.len,hlt,h.short⟩
theorem RS.bad(h:RS w R A ws nx wr):RS (w.setCell ⟨R,2,none⟩ (.bool true)) R A ws nx true :=
 ⟨(zS _ _ _ _ (by simp)).trans h.c0,(zS _ _ _ _ (by simp)).trans h.c1,World.cell?_setCell_same _ _ _ h.c2,(zF ..).trans h.f1,(zF ..).trans h.f2,h.ne,
  fun i hi=>(zS _ _ _ _ (by simp;intro e;exact absurd e.symm h.ne)).trans (h.rows i hi),h.len,h.c6c,h.short⟩
theorem c6k(R A:Nat)(ws:List ByteArray)(nx:Nat)(wr:Bool)(word:ByteArray)(w:World)(h:RS w R A ws nx wr)(hn:a1b ws.length nx wr=true)(hlt:nx<ws.length)(he:(ws[nx].toList==word.toList)=true):
  Calls Tryz.prog 82 #[.pointer (some ⟨R,0,none⟩),.string word] w fun e w'=>e=.returned (.bool true)/\RS w' R A ws (nx+1) wr/\Kept R w w':=by
 have c0:=h.c0;have c1:=h.c1;have c2:=h.c2;have f1:=h.f1;have cr:=h.rows nx hlt;have hl:=h.len;have hi:(nx:Int)<(ws.length:Int):=by omega
 go_enter Tryz.func82,Tryz.ntmps82
 go_wp2
 go_quiet ((go_at_call 63;exact Calls.quiet_of (a0X R A ws nx wr _ (h.drewN _))))
 go_wp2;go_ret;exact⟨rfl,(h.drewN _).step hlt,((Kept.refl R w).drewN _).setCell _ _⟩
def isB(ws:List ByteArray)(nx:Nat)(wr:Bool)(word:ByteArray):Bool:=a1b ws.length nx wr && ((ws.getD nx ByteArray.empty).toList==word.toList)
theorem a2n(R A:Nat)(ws:List ByteArray)(nx:Nat)(wr:Bool)(word:ByteArray)(w:World)(h:RS w R A ws nx wr):
  Calls Tryz.prog 82 #[.pointer (some ⟨R,0,none⟩),.string word] w fun e w'=>e=.returned (.bool (isB ws nx wr word))/\RS w' R A ws (if isB ws nx wr word then nx+1 else nx) wr/\Kept R w w':=by
 cases hm:a1b ws.length nx wr
 ·have e:isB ws nx wr word=false:=by simp[isB,hm]
  rw[e];refine (c6l R A ws nx wr word w h hm).mono ?_;rintro e w' ⟨rfl,n,rfl⟩;exact⟨rfl,h.drewN n,(Kept.refl R w).drewN n⟩
 ·have hlt:nx<ws.length:=by
   by_cases hlt:nx<ws.length
   ·exact hlt
   ·rw[a9d (by omega)] at hm;cases hm
  have eg:ws.getD nx ByteArray.empty=ws[nx]:=by simp[List.getD,hlt]
  cases he:(ws[nx].toList==word.toList)
  ·have e:isB ws nx wr word=false:=by rw[isB,eg,he,Bool.and_false]
   rw[e];refine (c2Z R A ws nx wr word w h hm hlt he).mono ?_;rintro e w' ⟨rfl,n,rfl⟩;exact⟨rfl,h.drewN n,(Kept.refl R w).drewN n⟩
  ·have e:isB ws nx wr word=true:=by rw[isB,eg,he,hm];rfl
   rw[e];exact c6k R A ws nx wr word w h hm hlt he
theorem b1F(R A:Nat)(ws:List ByteArray)(nx:Nat)(wr:Bool)(word:ByteArray)(w:World)(h:RS w R A ws nx wr):
  Calls Tryz.prog 134 #[.pointer (some ⟨R,0,none⟩),.string word] w fun e w'=>e=.returned (.tuple #[])/\RS w' R A ws (if isB ws nx wr word then nx+1 else nx) (if isB ws nx wr word then wr else true)/\Kept R w w':=by
 cases hb:isB ws nx wr word
 ·go_enter Tryz.func134,Tryz.ntmps134
  go_wp2_with fail
  refine (a2n R A ws nx wr word w h).mono ?_;rintro e w' ⟨rfl,h1,k1⟩;rw[hb] at h1 ⊢;have c2:=h1.c2;have f2:=h1.f2;go_wp2
  go_end0
  exact⟨rfl,h1.bad,k1.setCell _ _⟩
 ·go_enter Tryz.func134,Tryz.ntmps134
  go_wp2_with fail
  refine (a2n R A ws nx wr word w h).mono ?_;rintro e w' ⟨rfl,h1,k1⟩;rw[hb] at h1 ⊢;go_wp2
  go_end0
  exact⟨rfl,h1,k1⟩
def tkB(ws:List ByteArray)(nx:Nat)(wr:Bool)(B:ByteArray->Bool):Bool:=a1b ws.length nx wr && B (ws.getD nx ByteArray.empty)
def tkN(ws:List ByteArray)(nx:Nat)(wr:Bool)(B:ByteArray->Bool):Nat:=if tkB ws nx wr B then nx+1 else nx
def tkW(ws:List ByteArray)(nx:Nat)(wr:Bool)(B:ByteArray->Bool):Bool:=if tkB ws nx wr B then wr else true
def tkV(ws:List ByteArray)(nx:Nat)(wr:Bool)(B:ByteArray->Bool)(V:ByteArray->Int):Int:=if tkB ws nx wr B then V (ws.getD nx ByteArray.empty) else 0
theorem a4q(h:a1b n nx wr=true):nx<n:=by
 by_cases hlt:nx<n
 ·exact hlt
 ·rw[a9d (by omega)] at h;cases h
theorem a5f(ws:List ByteArray)(nx:Nat)(h:nx<ws.length):ws.getD nx ByteArray.empty=ws[nx]:=by simp[List.getD,h]
theorem a3s(f:Value)(R A:Nat)(ws:List ByteArray)(nx:Nat)(wr:Bool)(w:World)(h:RS w R A ws nx wr)(hm:a1b ws.length nx wr=false):
  Calls Tryz.prog 135 #[.pointer (some ⟨R,0,none⟩),f] w fun e w'=>e=.returned (.int .i64 0)/\RS w' R A ws nx true/\Kept R w w':=by
 go_enter Tryz.func135,Tryz.ntmps135
 go_wp2_with fail
 refine (a0X R A ws nx wr w h).mono ?_;rintro e w1 ⟨rfl,n,hw⟩;have h1:RS w1 R A ws nx wr:=by rw[hw];exact h.drewN n
 have k1:Kept R w w1:=by rw[hw];exact (Kept.refl R w).drewN n
 have c2:=h1.c2;have f2:=h1.f2;clear hw;go_wp2;go_ret;exact⟨rfl,h1.bad,k1.setCell _ _⟩
theorem b7N(R A:Nat)(ws:List ByteArray)(nx:Nat)(wr:Bool)(w:World)(h:RS w R A ws nx wr)(hm:a1b ws.length nx wr=true)(hlt:nx<ws.length)(hs:ws[nx].size<=maxLen)(hb:Txt.isNum ws[nx].data.toList=true):
  Calls Tryz.prog 135 #[.pointer (some ⟨R,0,none⟩),.func (.func 139) #[] #[]] w fun e w'=>e=.returned (.int .i64 (Txt.a2f ws[nx].data.toList))/\RS w' R A ws (nx+1) wr/\Kept R w w':=by
 have hi:(nx:Int)<(ws.length:Int):=by omega
 go_enter Tryz.func135,Tryz.ntmps135
 go_wp2_with fail
 refine (a0X R A ws nx wr w h).mono ?_;rintro e w1 ⟨rfl,n,hw⟩;have h1:RS w1 R A ws nx wr:=by rw[hw];exact h.drewN n
 have k1:Kept R w w1:=by rw[hw];exact (Kept.refl R w).drewN n
 have c0:=h1.c0;have c1:=h1.c1;have f1:=h1.f1;have cr:=h1.rows nx hlt;have hl:=h1.len;clear hw;go_wp2
 go_quiet ((go_at_call 139;exact Calls.quiet_of_same (a0m _ _ hs)))
 go_wp2;go_ret;exact⟨rfl,(h1.drewN _).step hlt,(k1.drewN _).setCell _ _⟩
theorem b7O(R A:Nat)(ws:List ByteArray)(nx:Nat)(wr:Bool)(w:World)(h:RS w R A ws nx wr)(hm:a1b ws.length nx wr=true)(hlt:nx<ws.length)(hs:ws[nx].size<=maxLen)(hb:Txt.isNum ws[nx].data.toList=false):
  Calls Tryz.prog 135 #[.pointer (some ⟨R,0,none⟩),.func (.func 139) #[] #[]] w fun e w'=>e=.returned (.int .i64 0)/\RS w' R A ws nx true/\Kept R w w':=by
 have hi:(nx:Int)<(ws.length:Int):=by omega
 go_enter Tryz.func135,Tryz.ntmps135
 go_wp2_with fail
 refine (a0X R A ws nx wr w h).mono ?_;rintro e w1 ⟨rfl,n,hw⟩;have h1:RS w1 R A ws nx wr:=by rw[hw];exact h.drewN n
 have k1:Kept R w w1:=by rw[hw];exact (Kept.refl R w).drewN n
 have c0:=h1.c0;have c1:=h1.c1;have c2:=h1.c2;have f2:=h1.f2;have cr:=h1.rows nx hlt;have hl:=h1.len;clear hw;go_wp2
 go_quiet ((go_at_call 139;exact Calls.quiet_of_same (a0m _ _ hs)))
 go_wp2;go_ret;exact⟨rfl,(h1.drewN _).bad,(k1.drewN _).setCell _ _⟩
structure Env(w:World):Prop where
 tab:Tab w
 c5L:∃ m,w.cell? ⟨2,0,none⟩=some (.int .i64 m)
 pow : Lib.TabIs Tryz.prog w "internal/strconv.uint64pow10" .u64 Lib.pow10Tab
 size:10<=w.heap.size
 mo:w.cell? ⟨3,0,none⟩=some (.string ⟨#[109,111]⟩)
 tu:w.cell? ⟨3,1,none⟩=some (.string ⟨#[116,117]⟩)
 we:w.cell? ⟨3,2,none⟩=some (.string ⟨#[119,101]⟩)
 th:w.cell? ⟨3,3,none⟩=some (.string ⟨#[116,104]⟩)
 fr:w.cell? ⟨3,4,none⟩=some (.string ⟨#[102,114]⟩)
 sa:w.cell? ⟨3,5,none⟩=some (.string ⟨#[115,97]⟩)
 su:w.cell? ⟨3,6,none⟩=some (.string ⟨#[115,117]⟩)
theorem c6q : Tryz.prog.globalNamed "internal/strconv.uint64pow10" = some 0 := by kernel_rfl
theorem Env.later(h:Env w)(hb:Below w.heap.size w wx):Env wx:=by
 obtain⟨m,hm⟩:=h.c5L;refine⟨h.tab.later hb,⟨m,cell_later hb hm⟩,?_,Nat.le_trans h.size hb.size,cell_later hb h.mo,cell_later hb h.tu,cell_later hb h.we,cell_later hb h.th,cell_later hb h.fr,cell_later hb h.sa,cell_later hb h.su⟩;have hp:=h.pow;have hz:=h.size;unfold Lib.TabIs World.var? at hp ⊢;simp only[c6q,Option.bind_some] at hp ⊢;rw[hb.block 0 (by omega)];exact hp
theorem Env.drewN(h:Env w)(n:Nat):Env (w.drewN n):=h.later (w:=w) (wx:=w.drewN n) ⟨rfl,rfl,rfl,Nat.le_refl _,fun _ _=>rfl⟩
theorem b1z{a b:ByteArray}(h:a=b)(g:c=d):Ending.returned (.tuple #[.string a,.bool c])=.returned (.tuple #[.string b,.bool d]):=by rw[h,g]
theorem b3Q(s:ByteArray)(w:World)(hs:s.size<=281474976710656):
  Calls Tryz.prog 142 #[.string s] w fun e w'=>e=.returned (.string s)/\Below w.heap.size w w':=by
 go_enter Tryz.func142,Tryz.ntmps142
 go_wp2_with fail
 refine (Tryz.stringslite_Clone s w hs).mono ?_;rintro e w' ⟨rfl,hb⟩;go_wp2;go_ret;exact⟨rfl,hb⟩
def b4S(s:ByteArray):ByteArray:=if Txt.a1j s.data.toList then s else ⟨#[]⟩
theorem a8a(s:ByteArray)(w:World)(hs:s.size<=160):
  Calls Tryz.prog 131 #[.string s] w fun e w'=>e=.returned (.tuple #[.string (b4S s),.bool (Txt.a1j s.data.toList)])/\Below w.heap.size w w':=by
 by_cases h0:s.size=0
 ·have H:Hid (Txt.a1j s.data.toList=false):=Txt.b0K (by rw[Txt.a1d];omega);have h1:((s.size:Int)==0)=true:=beq_iff_eq.2 (by omega)
  go_enter Tryz.func131,Tryz.ntmps131
  go_wp2;go_ret2;exact⟨b1z (by simp[b4S,H.out]) (by rw[H.out]),Below.refl _ _⟩
 ·have h1:((s.size:Int)==0)=false:=beq_eq_false_iff_ne.2 (by omega)
  by_cases h7:8<s.size
  ·have H:Hid (Txt.a1j s.data.toList=false):=Txt.b0K (by rw[Txt.a1d];omega);clear h0
   go_enter Tryz.func131,Tryz.ntmps131
   go_wp2;go_ret2;exact⟨b1z (by simp[b4S,H.out]) (by rw[H.out]),Below.refl _ _⟩
  ·go_enter Tryz.func131,Tryz.ntmps131
   go_wp2
   go_loop [4] (fun i=>∃ k:Nat,k<=s.size/\i=.int .i64 k/\Txt.c1M (s.data.toList.take k)=true) (fun i=>s.size-(intOf i).toNat)
   case atStart=>exact⟨0,Nat.zero_le _,rfl,rfl⟩
   case round =>
    obtain⟨k,hk,rfl,hd⟩:=hrel;have HD:=hide hd;clear hd
    by_cases hlt:k<s.size
    ·have HT:Hid (s.data.toList.take (k+1)=s.data.toList.take k++[s[k]]):=Txt.a8N s k hlt
     by_cases hc:Txt.low s[k]=true
     ·have hc':=(Txt.c0s _).1 hc;have HC:=hide hc;obtain⟨hc1,hc2⟩:=hc';clear hc;go_wp2
      go_round
      case rel=>exact⟨k+1,by omega,by go_num,by rw[HT.out,Txt.b3c,HD.out,HC.out];rfl⟩
      case measure=>simp[intOf];omega
     ·have HC:Hid (Txt.a1j s.data.toList=false):=Txt.b8r (Txt.b3d _ (k+1) (by rw[HT.out,Txt.b3c,HD.out];simpa using hc))
      have hc':(s[k].toNat:Int)<97\/(¬ (s[k].toNat:Int)<97/\122<(s[k].toNat:Int)):=by
       have:=mt (Txt.c0s s[k]).2 hc;omega
      clear hc;rcases hc' with hc' |⟨hc',hc''⟩
      all_goals
       go_wp2;go_ret2;exact⟨b1z (by simp[b4S,HC.out]) (by rw[HC.out]),Below.refl _ _⟩
    ·have HA:Hid (s.data.toList.take k=s.data.toList):=Txt.a5t s k (by omega);have HN:Hid (Txt.a1j s.data.toList=true):=Txt.b5b (by rw[Txt.a1d];omega) (by rw[Txt.a1d];omega) (by rw[<- HA.out];exact HD.out)
     go_wp2_with fail
     refine (b3Q s w (by omega)).mono ?_;rintro e w' ⟨rfl,hb⟩;go_wp2;go_ret2;exact⟨b1z (by simp[b4S,HN.out]) (by rw[HN.out]),hb⟩
theorem f4Z(s:ByteArray)(w:World)(hs:s.size<=160):
  Calls Tryz.prog 186 #[.string s] w fun e w'=>e=.returned (.bool (Txt.a1j s.data.toList))/\w'=w:=by
 by_cases h0:s.size<1
 ·have H:Hid (Txt.a1j s.data.toList=false):=Txt.b0K (by rw[Txt.a1d];omega);have h1:((s.size:Int)<1):=by omega
  go_enter Tryz.func186,Tryz.ntmps186
  go_wp2;go_ret;exact⟨a2a (by rw[H.out]),rfl⟩
 ·have h1:¬ ((s.size:Int)<1):=by omega
  by_cases h7:8<s.size
  ·have H:Hid (Txt.a1j s.data.toList=false):=Txt.b0K (by rw[Txt.a1d];omega)
   go_enter Tryz.func186,Tryz.ntmps186
   go_wp2;go_ret;exact⟨a2a (by rw[H.out]),rfl⟩
  ·go_enter Tryz.func186,Tryz.ntmps186
   go_wp2
   go_loop [3] (fun i=>∃ k:Nat,k<=s.size/\i=.int .i64 k/\Txt.c1M (s.data.toList.take k)=true) (fun i=>s.size-(intOf i).toNat)
   case atStart=>exact⟨0,Nat.zero_le _,rfl,rfl⟩
   case round =>
    obtain⟨k,hk,rfl,hd⟩:=hrel;have HD:=hide hd;clear hd
    by_cases hlt:k<s.size
    ·have HT:Hid (s.data.toList.take (k+1)=s.data.toList.take k++[s[k]]):=Txt.a8N s k hlt
     by_cases hc:Txt.low s[k]=true
     ·have hc':=(Txt.c0s _).1 hc;have HC:=hide hc;obtain⟨hc1,hc2⟩:=hc';clear hc;go_wp2
      go_round
      case rel=>exact⟨k+1,by omega,by go_num,by rw[HT.out,Txt.b3c,HD.out,HC.out];rfl⟩
      case measure=>simp[intOf];omega
     ·have HC:Hid (Txt.a1j s.data.toList=false):=Txt.b8r (Txt.b3d _ (k+1) (by rw[HT.out,Txt.b3c,HD.out];simpa using hc))
      have hc':(s[k].toNat:Int)<97\/(¬ (s[k].toNat:Int)<97/\122<(s[k].toNat:Int)):=by
       have:=mt (Txt.c0s s[k]).2 hc;omega
      clear hc;rcases hc' with hc' |⟨hc',hc''⟩
      all_goals
       go_wp2;go_ret;exact⟨a2a (by rw[HC.out]),rfl⟩
    ·have HA:Hid (s.data.toList.take k=s.data.toList):=Txt.a5t s k (by omega);have HN:Hid (Txt.a1j s.data.toList=true):=Txt.b5b (by rw[Txt.a1d];omega) (by rw[Txt.a1d];omega) (by rw[<- HA.out];exact HD.out);go_wp2;go_ret;exact⟨a2a (by rw[HN.out]),rfl⟩
theorem b3K(l:List UInt8):∀ acc:Nat,Txt.a6j l=true->∃ n:Nat,Lib.decFrom acc l=some n/\(n:Int)=l.foldl (fun n c=>n*10+((c.toNat:Int)-48)) (acc:Int):=by
 induction l with
 |nil=>intro acc _;exact⟨acc,rfl,rfl⟩
 |cons c l ih =>
  intro acc h;simp only[Txt.a6j,List.all_cons,Bool.and_eq_true] at h;have hc:=(Txt.a6k c).1 h.1;obtain⟨n,h1,h2⟩:=ih (acc*10+(c.toNat-48)) h.2;refine⟨n,?_,?_⟩
  ·simp only[Lib.decFrom,Lib.digitVal];rw[if_pos (by omega)];exact h1
  ·rw[h2,List.foldl_cons]
   congr 1
   omega
theorem c1z(l:List UInt8)(h:Txt.a6j l=true)(h0:l≠[]):Lib.atoi l=some (Txt.b4R l):=by
 obtain⟨n,h1,h2⟩:=b3K l 0 h
 cases l with
 |nil=>exact absurd rfl h0
 |cons b r =>
  simp only[Txt.a6j,List.all_cons,Bool.and_eq_true] at h;have hb:=(Txt.a6k b).1 h.1
  have b1:(b==45)=false:=by
   rw[beq_eq_false_iff_ne];intro e;subst e;revert hb;decide
  have b2:(b==43)=false:=by
   rw[beq_eq_false_iff_ne];intro e;subst e;revert hb;decide
  simp only[Lib.atoi,b1,b2,Bool.false_eq_true,if_false,Lib.decNat,List.isEmpty_cons,h1,Option.map_some];rw[h2];rfl
def b4g(s:ByteArray)(lo hi:Nat):Int:=if lo<=s.size/\s.size<=hi/\Txt.a6j s.data.toList=true then Txt.b4R s.data.toList else -1
theorem b6z(h:¬ (lo<=s.size/\s.size<=hi)):b4g s lo hi=-1:=by
 unfold b4g;rw[if_neg (fun g=>h ⟨g.1,g.2.1⟩)]
theorem b6A(h:Txt.a6j s.data.toList=false):b4g s lo hi=-1:=by
 unfold b4g;rw[if_neg (fun g=>by rw[h] at g;exact absurd g.2.2 (by decide))]
theorem b6y(h1:lo<=s.size)(h2:s.size<=hi)(h:Txt.a6j s.data.toList=true):b4g s lo hi=Txt.b4R s.data.toList:=by
 unfold b4g;rw[if_pos ⟨h1,h2,h⟩]
theorem b0E(s:ByteArray)(lo hi:Nat)(w:World)(hs:s.size<=160)(hlo:1<=lo)(hhi:hi<=7):
  Calls Tryz.prog 126 #[.string s,.int .i64 lo,.int .i64 hi] w fun e w'=>e=.returned (.int .i64 (b4g s lo hi))/\Below w.heap.size w w':=by
 by_cases h0:s.size<lo
 ·have H:Hid (b4g s lo hi=-1):=b6z (by omega);have h1:((s.size:Int)<(lo:Int)):=by omega
  go_enter Tryz.func126,Tryz.ntmps126
  go_wp2;go_ret;exact⟨a3w (by rw[H.out]),Below.refl _ _⟩
 ·have h1:¬ ((s.size:Int)<(lo:Int)):=by omega
  by_cases h7:hi<s.size
  ·have H:Hid (b4g s lo hi=-1):=b6z (by omega);have h2:((hi:Int)<(s.size:Int)):=by omega
   go_enter Tryz.func126,Tryz.ntmps126
   go_wp2;go_ret;exact⟨a3w (by rw[H.out]),Below.refl _ _⟩
  ·have h2:¬ ((hi:Int)<(s.size:Int)):=by omega
   go_enter Tryz.func126,Tryz.ntmps126
   go_wp2
   go_loop [7] (fun i=>∃ k:Nat,k<=s.size/\i=.int .i64 k/\Txt.a6j (s.data.toList.take k)=true) (fun i=>s.size-(intOf i).toNat)
   case atStart=>exact⟨0,Nat.zero_le _,rfl,rfl⟩
   case round =>
    obtain⟨k,hk,rfl,hd⟩:=hrel;have HD:=hide hd;clear hd
    by_cases hlt:k<s.size
    ·have HT:Hid (s.data.toList.take (k+1)=s.data.toList.take k++[s[k]]):=Txt.a8N s k hlt
     by_cases hc:Txt.dig s[k]=true
     ·have hc':=(Txt.a6k _).1 hc;have HC:=hide hc;obtain⟨hc1,hc2⟩:=hc';clear hc;go_wp2
      go_round
      case rel=>exact⟨k+1,by omega,by go_num,by rw[HT.out,Txt.a6X,HD.out,HC.out];rfl⟩
      case measure=>simp[intOf];omega
     ·have HC:Hid (b4g s lo hi=-1):=b6A (Txt.a8h _ (k+1) (by rw[HT.out,Txt.a6X,HD.out];simpa using hc))
      have hc':(s[k].toNat:Int)<48\/(¬ (s[k].toNat:Int)<48/\57<(s[k].toNat:Int)):=by
       have:=mt (Txt.a6k s[k]).2 hc;omega
      clear hc;rcases hc' with hc' |⟨hc',hc''⟩
      all_goals
       go_wp2;go_ret;exact⟨a3w (by rw[HC.out]),Below.refl _ _⟩
    ·have HA:Hid (s.data.toList.take k=s.data.toList):=Txt.a5t s k (by omega);have hdg:Txt.a6j s.data.toList=true:=by rw[<- HA.out];exact HD.out
     have HN:Hid (b4g s lo hi=Txt.b4R s.data.toList):=b6y (by omega) (by omega) hdg;have HE:Hid (Lib.atoi s.data.toList=some (Txt.b4R s.data.toList)):=c1z _ hdg (fun e=>by have:=Txt.a1d s;rw[e] at this;simp at this;omega);clear hdg
     go_wp2_with fail
     refine (Tryz.strconv_Atoi s _ (by omega) HE.out w).mono ?_;rintro e w' ⟨rfl,t,hw⟩;have hb:Below w.heap.size w w':=by rw[hw];exact Joins.below_bytesWorld _ _ _ _ (zq _)
     clear hw;go_wp2;go_ret;exact⟨a3w (by rw[HN.out]),hb⟩
theorem b2L(s:ByteArray)(a b:Nat)(h:s.size<=160):(s.extract a b).size<=160:=by
 have:(s.extract a b).size=min b s.size-a:=ByteArray.size_extract ..;omega
theorem b2K(s:ByteArray)(a b n:Nat)(h:min b s.size-a=n):(s.extract a b).size=n:=(ByteArray.size_extract ..).trans h
theorem b2X(t:ByteArray)(n:Nat)(h:t.size=n)(h1:1<=n)(h7:n<=7):b4g t n n=if Txt.isNum t.data.toList then Txt.a2f t.data.toList else -1:=by
 have hl:=Txt.a1d t
 cases hd:Txt.a6j t.data.toList
 ·rw[b6A hd,Txt.b3q hd];rfl
 ·have hn:Txt.isNum t.data.toList=true:=Txt.b0J (by omega) (by omega) hd;rw[b6y (by omega) (by omega) hd,hn];simp[Txt.a2f,hn]
theorem d5I(t:ByteArray):b4g t 1 7=if Txt.isNum t.data.toList then Txt.a2f t.data.toList else -1:=by
 have hl:=Txt.a1d t
 cases hd:Txt.a6j t.data.toList
 ·rw[b6A hd,Txt.b3q hd];rfl
 ·by_cases h:1<=t.size/\t.size<=7
  ·have hn:Txt.isNum t.data.toList=true:=Txt.b0J (by omega) (by omega) hd;rw[b6y h.1 h.2 hd,hn];simp[Txt.a2f,hn]
  ·rw[b6z h,Txt.b3o (by omega)];rfl
def c5N(s:ByteArray):Int:=if Txt.a3a s then Txt.a6J s else -1
def g2R(s:ByteArray):Int:=if Txt.a5j s=true/\0<=Txt.a2o s/\Txt.a2o s<=728 then Txt.a2o s else -1
theorem b1d(h:Txt.a3a s=false):c5N s=-1:=by simp[c5N,h]
theorem d4C(h:Txt.a5j s=false):g2R s=-1:=by simp[g2R,h]
theorem c5y(s:ByteArray)(w:World)(hm:s.size<=160):
  Calls Tryz.prog 188 #[.string s] w fun e w'=>e=.returned (.int .i64 (c5N s))/\Below w.heap.size w w':=by
 by_cases hs:s.size=5
 ·have h5:((s.size:Int) != 5)=false:=b5z (by omega);have h2n:2<s.size:=by omega
  have h6:(2:Int)<(s.size:Int):=by omega
  have h7:(3:Int)<=(s.size:Int):=by omega
  by_cases hb:Txt.a0V s 2=58
  ·have hc:(((s[2]'h2n).toNat:Int) != 58)=false:=b5z (by rw[<- Txt.a2W];exact hb);have b1:=Txt.a2B (Txt.part s 0 2);have b2:=Txt.a2B (Txt.part s 3 5);have HF:=hide (Txt.b6G hs hb);have e1:b4g (s.extract 0 2) 2 2=if Txt.isNum (Txt.part s 0 2) then Txt.a2f (Txt.part s 0 2) else -1:=b2X _ 2 (b2K _ _ _ _ (by omega)) (by omega) (by omega)
   have e2:b4g (s.extract 3 s.size) 2 2=if Txt.isNum (Txt.part s 3 5) then Txt.a2f (Txt.part s 3 5) else -1:=by
    rw[hs];exact b2X _ 2 (b2K _ _ _ _ (by omega)) (by omega) (by omega)
   have hx:∃ x y:Int,b4g (s.extract 0 2) 2 2=x/\b4g (s.extract 3 s.size) 2 2=y:=⟨_,_,rfl,rfl⟩;obtain⟨x,y,hx,hy⟩:=hx;have bx:-1<=x/\x<=9999999:=by rw[<- hx,e1];split <;> omega
   have by':-1<=y/\y<=9999999:=by rw[<- hy,e2];split <;> omega
   have HR:Hid (c5N s=if x<0\/23<x\/y<0\/59<y then -1 else 60*x+y):=by
    show c5N s=_;rw[<- hx,<- hy,e1,e2,c5N,Txt.a6J,a0d HF]
    cases Txt.isNum (Txt.part s 0 2)
    ·simp
    ·cases Txt.isNum (Txt.part s 3 5)
     ·simp
     ·simp only[Bool.true_and,if_true]
      by_cases g1:Txt.a2f (Txt.part s 0 2)<=23
      ·by_cases g2:Txt.a2f (Txt.part s 3 5)<=59
       ·simp only[g1,g2,decide_true,Bool.and_self,if_true];rw[if_neg (by omega)];omega
       ·simp only[g1,g2,decide_true,decide_false,Bool.and_false,Bool.false_eq_true,if_false];rw[if_pos (by omega)]
      ·simp only[g1,decide_false,Bool.false_and,Bool.false_eq_true,if_false];rw[if_pos (by omega)]
   have HX:=hide hx;have HY:=hide hy;clear e1 e2 hx hy hs hb b1 b2 HF;have hcase:x<0\/(¬ x<0/\23<x)\/(¬ x<0/\¬ 23<x/\y<0)\/(¬ x<0/\¬ 23<x/\¬ y<0/\59<y)\/(¬ x<0/\¬ 23<x/\¬ y<0/\¬ 59<y):=by omega
   rcases hcase with g|⟨g,g'⟩|⟨g,g',g''⟩|⟨g,g',g'',g3⟩|⟨g,g',g'',g3⟩
   all_goals
    go_enter Tryz.func188,Tryz.ntmps188
    go_wp2_with fail
    refine (b0E (s.extract 0 2) 2 2 _ (b2L _ _ _ hm) (by omega) (by omega)).mono ?_;rintro e w1 ⟨rfl,hb1⟩;rw[a0d HX]
    go_wp2_with fail
    refine (b0E (s.extract 3 s.size) 2 2 _ (b2L _ _ _ hm) (by omega) (by omega)).mono ?_;rintro e w2 ⟨rfl,hb2⟩;rw[a0d HY];have hbb:=hb1.trans (hb2.mono hb1.size);go_wp2;go_ret;refine⟨a3w ?_,hbb⟩;rw[HR.out]
    first|rw[if_pos (by omega)]|rw[if_neg (by omega)]
  ·have hc:(((s[2]'h2n).toNat:Int) != 58)=true:=b5y (by rw[<- Txt.a2W];exact hb);have HF:=hide (b1d (Txt.a5D (s:=s) (by omega)));clear hs hb
   go_enter Tryz.func188,Tryz.ntmps188
   go_wp2;go_ret;exact⟨a3w (by rw[a0d HF]),Below.refl _ _⟩
 ·have h5:((s.size:Int) != 5)=true:=b5y (by omega);have HF:=hide (b1d (Txt.a5D (s:=s) (by omega)));clear hs
  go_enter Tryz.func188,Tryz.ntmps188
  go_wp2;go_ret;exact⟨a3w (by rw[a0d HF]),Below.refl _ _⟩
theorem d4B(s:ByteArray)(w:World)(hm:s.size<=160):
  Calls Tryz.prog 187 #[.string s] w fun e w'=>e=.returned (.int .i64 (g2R s))/\Below w.heap.size w w':=by
 by_cases hs:s.size=10
 ·have h5:((s.size:Int) != 10)=false:=b5z (by omega);have h4n:4<s.size:=by omega
  have h7n:7<s.size:=by omega
  have h4:(4:Int)<(s.size:Int):=by omega
  have h7:(7:Int)<(s.size:Int):=by omega
  have h8:(8:Int)<=(s.size:Int):=by omega
  by_cases hb:Txt.a0V s 4=45
  ·have hc:(((s[4]'h4n).toNat:Int) != 45)=false:=b5z (by rw[<- Txt.a2W];exact hb)
   by_cases hd:Txt.a0V s 7=45
   ·have he:(((s[7]'h7n).toNat:Int) != 45)=false:=b5z (by rw[<- Txt.a2W];exact hd);have HF:=hide (Txt.c1h hs hb hd);have e1:b4g (s.extract 0 4) 4 4=if Txt.isNum (Txt.part s 0 4) then Txt.a2f (Txt.part s 0 4) else -1:=b2X _ 4 (b2K _ _ _ _ (by omega)) (by omega) (by omega)
    have e2:b4g (s.extract 5 7) 2 2=if Txt.isNum (Txt.part s 5 7) then Txt.a2f (Txt.part s 5 7) else -1:=b2X _ 2 (b2K _ _ _ _ (by omega)) (by omega) (by omega)
    have e3:b4g (s.extract 8 s.size) 2 2=if Txt.isNum (Txt.part s 8 10) then Txt.a2f (Txt.part s 8 10) else -1:=by
     rw[hs];exact b2X _ 2 (b2K _ _ _ _ (by omega)) (by omega) (by omega)
    have hx:∃ x y z:Int,b4g (s.extract 0 4) 4 4=x/\b4g (s.extract 5 7) 2 2=y/\b4g (s.extract 8 s.size) 2 2=z:=⟨_,_,_,rfl,rfl,rfl⟩;obtain⟨x,y,z,hx,hy,hz⟩:=hx
    have HR:Hid (g2R s=if Cal.ok x y z=true/\0<=Cal.num x y z/\Cal.num x y z<=728 then Cal.num x y z else -1):=by
     show g2R s=_;rw[<- hx,<- hy,<- hz,e1,e2,e3,g2R,Txt.a2o,a0d HF]
     cases Txt.isNum (Txt.part s 0 4)
     ·simp[a5A (y:=-1) (m:=_) (d:=_) (by omega)]
     ·cases Txt.isNum (Txt.part s 5 7)
      ·simp[a5A (y:=_) (m:=-1) (d:=_) (by omega)]
      ·cases Txt.isNum (Txt.part s 8 10)
       ·simp[a5A (y:=_) (m:=_) (d:=-1) (by omega)]
       ·simp only[Bool.true_and,if_true]
        cases Cal.ok (Txt.a2f (Txt.part s 0 4)) (Txt.a2f (Txt.part s 5 7)) (Txt.a2f (Txt.part s 8 10)) <;> simp
    have HX:=hide hx;have HY:=hide hy;have HZ:=hide hz;clear e1 e2 e3 hx hy hz hs hb hd HF
    cases ho:Cal.ok x y z
    ·go_enter Tryz.func187,Tryz.ntmps187
     go_wp2_with fail
     refine (b0E (s.extract 0 4) 4 4 _ (b2L _ _ _ hm) (by omega) (by omega)).mono ?_;rintro e w1 ⟨rfl,hb1⟩;rw[a0d HX]
     go_wp2_with fail
     refine (b0E (s.extract 5 7) 2 2 _ (b2L _ _ _ hm) (by omega) (by omega)).mono ?_;rintro e w2 ⟨rfl,hb2⟩;rw[a0d HY]
     go_wp2_with fail
     refine (b0E (s.extract 8 s.size) 2 2 _ (b2L _ _ _ hm) (by omega) (by omega)).mono ?_;rintro e w3 ⟨rfl,hb3⟩;rw[a0d HZ];have hbb:=(hb1.trans (hb2.mono hb1.size)).trans (hb3.mono (Nat.le_trans hb1.size hb2.size))
     go_wp2_with fail
     refine (f3X _ _ _ _ ho).mono ?_;rintro e w4 ⟨rfl,rfl⟩;go_wp2;go_ret;exact⟨a3w (by rw[HR.out,ho];simp),hbb⟩
    ·have hcase:Cal.num x y z<0\/(¬ Cal.num x y z<0/\728<Cal.num x y z)\/(¬ Cal.num x y z<0/\¬ 728<Cal.num x y z):=by omega
     rcases hcase with g|⟨g,g'⟩|⟨g,g'⟩
     all_goals
      go_enter Tryz.func187,Tryz.ntmps187
      go_wp2_with fail
      refine (b0E (s.extract 0 4) 4 4 _ (b2L _ _ _ hm) (by omega) (by omega)).mono ?_;rintro e w1 ⟨rfl,hb1⟩;rw[a0d HX]
      go_wp2_with fail
      refine (b0E (s.extract 5 7) 2 2 _ (b2L _ _ _ hm) (by omega) (by omega)).mono ?_;rintro e w2 ⟨rfl,hb2⟩;rw[a0d HY]
      go_wp2_with fail
      refine (b0E (s.extract 8 s.size) 2 2 _ (b2L _ _ _ hm) (by omega) (by omega)).mono ?_;rintro e w3 ⟨rfl,hb3⟩;rw[a0d HZ];have hbb:=(hb1.trans (hb2.mono hb1.size)).trans (hb3.mono (Nat.le_trans hb1.size hb2.size))
      go_wp2_with fail
      refine (f1m _ _ _ _ ho).mono ?_;rintro e w4 ⟨rfl,rfl⟩;go_wp2;go_ret;refine⟨a3w ?_,hbb⟩;rw[HR.out]
      first|rw[if_neg (by omega)]|rw[if_pos ⟨ho,by omega,by omega⟩]
   ·have he:(((s[7]'h7n).toNat:Int) != 45)=true:=b5y (by rw[<- Txt.a2W];exact hd);have HF:=hide (d4C (Txt.a6l (s:=s) (by omega)));clear hs hb hd
    go_enter Tryz.func187,Tryz.ntmps187
    go_wp2;go_ret;exact⟨a3w (by rw[a0d HF]),Below.refl _ _⟩
  ·have hc:(((s[4]'h4n).toNat:Int) != 45)=true:=b5y (by rw[<- Txt.a2W];exact hb);have HF:=hide (d4C (Txt.a6l (s:=s) (by omega)));clear hs hb
   go_enter Tryz.func187,Tryz.ntmps187
   go_wp2;go_ret;exact⟨a3w (by rw[a0d HF]),Below.refl _ _⟩
 ·have h5:((s.size:Int) != 10)=true:=b5y (by omega);have HF:=hide (d4C (Txt.a6l (s:=s) (by omega)));clear hs
  go_enter Tryz.func187,Tryz.ntmps187
  go_wp2;go_ret;exact⟨a3w (by rw[a0d HF]),Below.refl _ _⟩
theorem c3v(s:ByteArray):Txt.a2y s=(Txt.a5j s && decide (0<=Txt.a2o s) && decide (Txt.a2o s<728)):=by
 rw[Bool.eq_iff_iff];simp[Txt.a2y,and_assoc]
def b0a(s:ByteArray):Int:=if Txt.a2y s then Txt.a2o s else 0
theorem a8b(s:ByteArray)(w:World)(ht:Tab w)(hm:s.size<=160):
  Calls Tryz.prog 136 #[.string s] w fun e w'=>e=.returned (.tuple #[.int .i64 (b0a s),.bool (Txt.a2y s)])/\w'=w:=by
 have hm':s.size<=maxLen:=by unfold maxLen;omega
 have HD:=hide (c3v s)
 cases hb:Txt.a5j s
 ·go_enter Tryz.func136,Tryz.ntmps136
  go_wp2_with fail
  refine (a1U s w ht hm').mono ?_;rintro e w' ⟨rfl,rfl⟩;go_wp2;go_ret2;exact⟨a0A (by simp[b0a,a0d HD,hb]) (by simp[a0d HD,hb]),rfl⟩
 ·have hcase:Txt.a2o s<0\/(¬ Txt.a2o s<0/\728<=Txt.a2o s)\/(¬ Txt.a2o s<0/\¬ 728<=Txt.a2o s):=by omega
  rcases hcase with g|⟨g,g'⟩|⟨g,g'⟩
  all_goals
   have HB:Hid (Txt.a2y s=(decide (0<=Txt.a2o s) && decide (Txt.a2o s<728))):=(a0d HD).trans (by rw[hb];rfl)
   go_enter Tryz.func136,Tryz.ntmps136
   go_wp2_with fail
   refine (a1U s w ht hm').mono ?_;rintro e w' ⟨rfl,rfl⟩;go_wp2;go_ret2;refine⟨a0A ?_ ?_,rfl⟩
  ·rw[b0a,HB.out,decide_eq_false (by omega)];rfl
  ·rw[HB.out,decide_eq_false (by omega)];rfl
  ·rw[b0a,HB.out,decide_eq_false (p:=Txt.a2o s<728) (by omega),Bool.and_false];rfl
  ·rw[HB.out,decide_eq_false (p:=Txt.a2o s<728) (by omega),Bool.and_false]
  ·rw[b0a,HB.out,decide_eq_true (p:=Txt.a2o s<728) (by omega),decide_eq_true (p:=0<=Txt.a2o s) (by omega)];rfl
  ·rw[HB.out,decide_eq_true (p:=Txt.a2o s<728) (by omega),decide_eq_true (p:=0<=Txt.a2o s) (by omega)];rfl
def a8J(s:ByteArray):Int:=if Txt.isNum s.data.toList then Txt.a2f s.data.toList else Txt.dmV s
def a0n(s:ByteArray):Bool:=(Txt.isNum s.data.toList || Txt.dmB s) && decide (0<=a8J s/\a8J s<=1048320)
def a1J(s:ByteArray):Int:=if a0n s then a8J s else 0
def g2T(s:ByteArray):Int:=if a0n s then a8J s else -1
theorem c1o(s:ByteArray)(h:s.size<=160):(Txt.b1a s).size<=160:=by
 rw[<- Txt.a1d];unfold Txt.b1a Lib.cut;have:=Txt.a1d s
 split <;> simp <;> omega
theorem c1n(s:ByteArray)(h:s.size<=160):(Txt.b0Z s).size<=160:=by
 rw[<- Txt.a1d];unfold Txt.b0Z Lib.cut;have:=Txt.a1d s
 split <;> simp <;> omega
theorem a1u(s:ByteArray)(w:World)(he:Env w)(hm:s.size<=160):
  Calls Tryz.prog 196 #[.string s] w fun e w'=>e=.returned (.tuple #[.int .i64 (Txt.dmV s),.bool (Txt.dmB s)])/\∃ n,w'=w.drewN n:=by
 obtain⟨m,hmx⟩:=he.c5L;have HE:=hide he;have HC:=hide (Txt.c6H s);have b1:=Txt.c3w (Txt.b1a s);have b2:=Txt.c4W (Txt.b0Z s);have hA:(Txt.b1a s).size<=maxLen:=by have:=c1o s hm;unfold maxLen;omega
 have hB:(Txt.b0Z s).size<=maxLen:=by have:=c1n s hm;unfold maxLen;omega
 have HA:=hide hA;have HB:=hide hB;clear he hA hB
 cases hf:Txt.c1N s
 ·have HD:Hid (Txt.dmB s=false):=by show Txt.dmB s=false;rw[<- (a0d HC).1,hf];rfl
  go_enter Tryz.func196,Tryz.ntmps196
  go_wp2_with fail
  refine (Tryz.strings_Cut s ⟨#[47]⟩ m w (by omega) hmx).mono ?_;rintro e w1 ⟨rfl,n,rfl⟩;rw[show (Lib.cut s.data.toList (ByteArray.mk #[47]).data.toList).snd.snd=Txt.c1N s from rfl];go_wp2;go_ret2;exact⟨a0A (by simp[Txt.dmV,HD.out]) (by rw[HD.out]),_,rfl⟩
 ·cases hd:Txt.a5j (Txt.b1a s)
  ·have HD:Hid (Txt.dmB s=false):=by show Txt.dmB s=false;rw[<- (a0d HC).1,hf,hd];rfl
   go_enter Tryz.func196,Tryz.ntmps196
   go_wp2_with fail
   refine (Tryz.strings_Cut s ⟨#[47]⟩ m w (by omega) hmx).mono ?_;rintro e w1 ⟨rfl,n,rfl⟩;rw[show (Lib.cut s.data.toList (ByteArray.mk #[47]).data.toList).snd.snd=Txt.c1N s from rfl,show (ByteArray.mk (Lib.cut s.data.toList (ByteArray.mk #[47]).data.toList).fst.toArray)=Txt.b1a s from rfl,show (ByteArray.mk (Lib.cut s.data.toList (ByteArray.mk #[47]).data.toList).snd.fst.toArray)=Txt.b0Z s from rfl]
   go_wp2_with fail
   refine (a1U (Txt.b1a s) _ ((a0d HE).drewN n).tab (a0d HA)).mono ?_;rintro e w1 ⟨rfl,rfl⟩
   go_wp2_with fail
   refine (a2m (Txt.b0Z s) _ (a0d HB)).mono ?_;rintro e w1 ⟨rfl,rfl⟩;go_wp2;go_ret2;exact⟨a0A (by simp[Txt.dmV,HD.out]) (by rw[HD.out]),_,rfl⟩
  ·cases hn:Txt.a3a (Txt.b0Z s)
   ·have HD:Hid (Txt.dmB s=false):=by show Txt.dmB s=false;rw[<- (a0d HC).1,hf,hd,hn];rfl
    go_enter Tryz.func196,Tryz.ntmps196
    go_wp2_with fail
    refine (Tryz.strings_Cut s ⟨#[47]⟩ m w (by omega) hmx).mono ?_;rintro e w1 ⟨rfl,n,rfl⟩;rw[show (Lib.cut s.data.toList (ByteArray.mk #[47]).data.toList).snd.snd=Txt.c1N s from rfl,show (ByteArray.mk (Lib.cut s.data.toList (ByteArray.mk #[47]).data.toList).fst.toArray)=Txt.b1a s from rfl,show (ByteArray.mk (Lib.cut s.data.toList (ByteArray.mk #[47]).data.toList).snd.fst.toArray)=Txt.b0Z s from rfl]
    go_wp2_with fail
    refine (a1U (Txt.b1a s) _ ((a0d HE).drewN n).tab (a0d HA)).mono ?_;rintro e w1 ⟨rfl,rfl⟩
    go_wp2_with fail
    refine (a2m (Txt.b0Z s) _ (a0d HB)).mono ?_;rintro e w1 ⟨rfl,rfl⟩;go_wp2;go_ret2;exact⟨a0A (by simp[Txt.dmV,HD.out]) (by rw[HD.out]),_,rfl⟩
   ·have HD:Hid (Txt.dmB s=true):=by show Txt.dmB s=true;rw[<- (a0d HC).1,hf,hd,hn];rfl
    have HV:=hide ((a0d HC).2 HD.out)
    go_enter Tryz.func196,Tryz.ntmps196
    go_wp2_with fail
    refine (Tryz.strings_Cut s ⟨#[47]⟩ m w (by omega) hmx).mono ?_;rintro e w1 ⟨rfl,n,rfl⟩;rw[show (Lib.cut s.data.toList (ByteArray.mk #[47]).data.toList).snd.snd=Txt.c1N s from rfl,show (ByteArray.mk (Lib.cut s.data.toList (ByteArray.mk #[47]).data.toList).fst.toArray)=Txt.b1a s from rfl,show (ByteArray.mk (Lib.cut s.data.toList (ByteArray.mk #[47]).data.toList).snd.fst.toArray)=Txt.b0Z s from rfl]
    go_wp2_with fail
    refine (a1U (Txt.b1a s) _ ((a0d HE).drewN n).tab (a0d HA)).mono ?_;rintro e w1 ⟨rfl,rfl⟩
    go_wp2_with fail
    refine (a2m (Txt.b0Z s) _ (a0d HB)).mono ?_;rintro e w1 ⟨rfl,rfl⟩;go_wp2;go_ret2;exact⟨a0A (a0d HV) (by rw[HD.out]),_,rfl⟩
theorem b9f(h:Txt.isNum s.data.toList=true):a0n s=decide (Txt.a2f s.data.toList<=1048320)/\a8J s=Txt.a2f s.data.toList:=by
 have b:=Txt.a2B s.data.toList;have e:a8J s=Txt.a2f s.data.toList:=by simp[a8J,h]
 refine⟨?_,e⟩;unfold a0n;rw[e,h,Bool.eq_iff_iff];simp;omega
theorem c1X(h:Txt.isNum s.data.toList=false):a0n s=(Txt.dmB s && decide (0<=Txt.dmV s/\Txt.dmV s<=1048320))/\a8J s=Txt.dmV s:=by
 have e:a8J s=Txt.dmV s:=by simp[a8J,h]
 exact⟨by unfold a0n;rw[e,h];rfl,e⟩
theorem a7Z(s:ByteArray)(w:World)(he:Env w)(hm:s.size<=160):
  Calls Tryz.prog 140 #[.string s] w fun e w'=>e=.returned (.tuple #[.int .i64 (a1J s),.bool (a0n s)])/\∃ n,w'=w.drewN n:=by
 have HE:=hide he;have hm':s.size<=maxLen:=by unfold maxLen;omega
 clear he
 cases hn:Txt.isNum s.data.toList
 ·have HT:=hide (c1X hn)
  cases hd:Txt.dmB s
  ·have HB:Hid (a0n s=false):=by show a0n s=false;rw[(a0d HT).1,hd];rfl
   go_enter Tryz.func140,Tryz.ntmps140
   go_wp2_with fail
   refine (a0m s w hm').mono ?_;rintro e w' ⟨rfl,rfl⟩
   go_wp2_with fail
   refine (a1u s _ (a0d HE) hm).mono ?_;rintro e w1 ⟨rfl,n,rfl⟩;go_wp2;go_ret2;exact⟨a0A (by simp[a1J,HB.out]) (by rw[HB.out]),_,rfl⟩
  ·have hcase:Txt.dmV s<0\/(¬ Txt.dmV s<0/\1048320<Txt.dmV s)\/(¬ Txt.dmV s<0/\¬ 1048320<Txt.dmV s):=by omega
   rcases hcase with g|⟨g,g'⟩|⟨g,g'⟩
   ·have HB:Hid (a0n s=false):=by show a0n s=false;rw[(a0d HT).1,hd,decide_eq_false (by omega)];rfl
    go_enter Tryz.func140,Tryz.ntmps140
    go_wp2_with fail
    refine (a0m s w hm').mono ?_;rintro e w' ⟨rfl,rfl⟩
    go_wp2_with fail
    refine (a1u s _ (a0d HE) hm).mono ?_;rintro e w1 ⟨rfl,n,rfl⟩;go_wp2;go_ret2;exact⟨a0A (by simp[a1J,HB.out]) (by rw[HB.out]),_,rfl⟩
   ·have HB:Hid (a0n s=false):=by show a0n s=false;rw[(a0d HT).1,hd,decide_eq_false (by omega)];rfl
    go_enter Tryz.func140,Tryz.ntmps140
    go_wp2_with fail
    refine (a0m s w hm').mono ?_;rintro e w' ⟨rfl,rfl⟩
    go_wp2_with fail
    refine (a1u s _ (a0d HE) hm).mono ?_;rintro e w1 ⟨rfl,n,rfl⟩;go_wp2;go_ret2;exact⟨a0A (by simp[a1J,HB.out]) (by rw[HB.out]),_,rfl⟩
   ·have HB:Hid (a0n s=true):=by show a0n s=true;rw[(a0d HT).1,hd,decide_eq_true (by omega)];rfl
    have HV:=hide (a0d HT).2
    go_enter Tryz.func140,Tryz.ntmps140
    go_wp2_with fail
    refine (a0m s w hm').mono ?_;rintro e w' ⟨rfl,rfl⟩
    go_wp2_with fail
    refine (a1u s _ (a0d HE) hm).mono ?_;rintro e w1 ⟨rfl,n,rfl⟩;go_wp2;go_ret2;exact⟨a0A (by simp[a1J,HB.out,a0d HV]) (by rw[HB.out]),_,rfl⟩
 ·have HT:=hide (b9f hn);have b:=Txt.a2B s.data.toList
  by_cases g:1048320<Txt.a2f s.data.toList
  ·have HB:Hid (a0n s=false):=by show a0n s=false;rw[(a0d HT).1,decide_eq_false (by omega)]
   go_enter Tryz.func140,Tryz.ntmps140
   go_wp2_with fail
   refine (a0m s w hm').mono ?_;rintro e w' ⟨rfl,rfl⟩;go_wp2;go_ret2;exact⟨a0A (by simp[a1J,HB.out]) (by rw[HB.out]),0,rfl⟩
  ·have HB:Hid (a0n s=true):=by show a0n s=true;rw[(a0d HT).1,decide_eq_true (by omega)]
   have HV:=hide (a0d HT).2
   go_enter Tryz.func140,Tryz.ntmps140
   go_wp2_with fail
   refine (a0m s w hm').mono ?_;rintro e w' ⟨rfl,rfl⟩;go_wp2;go_ret2;exact⟨a0A (by simp[a1J,HB.out,a0d HV]) (by rw[HB.out]),0,rfl⟩
theorem g2f(h:s.size=16):Txt.isNum s.data.toList=false:=Txt.b3o (by rw[Txt.a1d];omega)
theorem g1h(hs:s.size=16)(hb:Txt.a0V s 10=47):g2T s=if g2R (s.extract 0 10)<0\/c5N (s.extract 11 16)<0\/1048320<1440*g2R (s.extract 0 10)+c5N (s.extract 11 16) then -1 else 1440*g2R (s.extract 0 10)+c5N (s.extract 11 16):=by
 have ⟨e1,e2⟩:=c1X (g2f hs);have bm:=Txt.c4W (s.extract 11 16);have bd:=Txt.c3w (s.extract 0 10)
 have hdm:Txt.dmB s=(Txt.a5j (s.extract 0 10) && Txt.a3a (s.extract 11 16)):=by
  rw[Bool.eq_iff_iff];simp[Txt.dmB,hs,hb]
 unfold g2T;rw[e1,e2,Txt.dmV,hdm]
 cases hd:Txt.a5j (s.extract 0 10)
 ·rw[d4C hd];simp
 ·cases hn:Txt.a3a (s.extract 11 16)
  ·rw[b1d hn];simp
  ·have ec:c5N (s.extract 11 16)=Txt.a6J (s.extract 11 16):=by simp[c5N,hn]
   simp only[Bool.and_self,Bool.true_and,if_true,ec,decide_eq_true_eq]
   by_cases g:0<=Txt.a2o (s.extract 0 10)/\Txt.a2o (s.extract 0 10)<=728
   ·have ed:g2R (s.extract 0 10)=Txt.a2o (s.extract 0 10):=by simp[g2R,hd,g]
    rw[ed]
    by_cases q:Txt.a2o (s.extract 0 10)*1440+Txt.a6J (s.extract 11 16)<=1048320
    ·rw[if_pos (by omega),if_neg (by omega)];omega
    ·rw[if_neg (by omega),if_pos (by omega)]
   ·have ed:g2R (s.extract 0 10)=-1:=by unfold g2R;rw[if_neg (fun h=>g h.2)]
    rw[ed,if_neg (by omega),if_pos (by omega)]
theorem e7S(h:¬ (s.size=16/\Txt.a0V s 10=47)):g2T s=if 1048320<b4g s 1 7 then -1 else b4g s 1 7:=by
 have hdm:Txt.dmB s=false:=by
  cases hd:Txt.dmB s
  ·rfl
  ·have:=of_decide_eq_true hd;exact absurd ⟨this.1,this.2.1⟩ h
 rw[d5I]
 cases hn:Txt.isNum s.data.toList
 ·have ⟨e1,e2⟩:=c1X hn;unfold g2T;rw[e1,hdm];simp
 ·have ⟨e1,e2⟩:=b9f hn;unfold g2T;rw[e1,e2]
  by_cases g:Txt.a2f s.data.toList<=1048320
  ·rw[decide_eq_true g];simp;omega
  ·rw[decide_eq_false g];simp;omega
theorem d0T(s:ByteArray)(w:World)(hm:s.size<=160):
  Calls Tryz.prog 127 #[.string s] w fun e w'=>e=.returned (.int .i64 (g2T s))/\Below w.heap.size w w':=by
 by_cases hs:s.size=16
 ·have h5:((s.size:Int)==16)=true:=beq_iff_eq.2 (by omega);have h2n:10<s.size:=by omega
  have h6:(10:Int)<(s.size:Int):=by omega
  have h7:(11:Int)<=(s.size:Int):=by omega
  by_cases hb:Txt.a0V s 10=47
  ·have hc:(((s[10]'h2n).toNat:Int)==47)=true:=beq_iff_eq.2 (by rw[<- Txt.a2W];exact hb);have HR:=hide (g1h hs hb);have hx:∃ x y:Int,g2R (s.extract 0 10)=x/\c5N (s.extract 11 16)=y:=⟨_,_,rfl,rfl⟩;obtain⟨x,y,hx,hy⟩:=hx;have bx:-1<=x/\x<=728:=by rw[<- hx,g2R];split <;> omega
   have by':-1<=y/\y<=1439:=by have:=Txt.c4W (s.extract 11 16);rw[<- hy,c5N];split <;> omega
   have HX:=hide hx;have HY:Hid (c5N (s.extract 11 s.size)=y):=by show c5N (s.extract 11 s.size)=y;rw[hs];exact hy
   have HQ:Hid (g2T s=if x<0\/y<0\/1048320<1440*x+y then -1 else 1440*x+y):=by
    show g2T s=_;rw[a0d HR,hx,hy]
   clear hx hy hs hb HR;have hcase:x<0\/(¬ x<0/\y<0)\/(¬ x<0/\¬ y<0/\1048320<1440*x+y)\/(¬ x<0/\¬ y<0/\¬ 1048320<1440*x+y):=by omega
   rcases hcase with g|⟨g,g'⟩|⟨g,g',g''⟩|⟨g,g',g''⟩
   all_goals
    go_enter Tryz.func127,Tryz.ntmps127
    go_wp2_with fail
    refine (d4B (s.extract 0 10) _ (b2L _ _ _ hm)).mono ?_;rintro e w1 ⟨rfl,hb1⟩;rw[a0d HX]
    go_wp2_with fail
    refine (c5y (s.extract 11 s.size) _ (b2L _ _ _ hm)).mono ?_;rintro e w2 ⟨rfl,hb2⟩;rw[HY.out];have hbb:=hb1.trans (hb2.mono hb1.size);go_wp2;go_ret;refine⟨a3w ?_,hbb⟩;rw[HQ.out]
    first|rw[if_pos (by omega)]|rw[if_neg (by omega)]
  ·have hc:(((s[10]'h2n).toNat:Int)==47)=false:=beq_eq_false_iff_ne.2 (by rw[<- Txt.a2W];exact hb);have HR:=hide (e7S (s:=s) (by omega));clear hs hb;have hx:∃ x:Int,b4g s 1 7=x:=⟨_,rfl⟩;obtain⟨x,hx⟩:=hx;have HX:=hide hx
   have HQ:Hid (g2T s=if 1048320<x then -1 else x):=by
    show g2T s=_;rw[a0d HR,hx]
   clear hx HR
   by_cases g:1048320<x
   all_goals
    go_enter Tryz.func127,Tryz.ntmps127
    go_wp2_with fail
    refine (b0E s 1 7 _ hm (by omega) (by omega)).mono ?_;rintro e w1 ⟨rfl,hb1⟩;rw[a0d HX];go_wp2;go_ret;refine⟨a3w ?_,hb1⟩;rw[HQ.out]
    first|rw[if_pos (by omega)]|rw[if_neg (by omega)]
 ·have h5:((s.size:Int)==16)=false:=beq_eq_false_iff_ne.2 (by omega);have HR:=hide (e7S (s:=s) (by omega));clear hs;have hx:∃ x:Int,b4g s 1 7=x:=⟨_,rfl⟩;obtain⟨x,hx⟩:=hx;have HX:=hide hx
  have HQ:Hid (g2T s=if 1048320<x then -1 else x):=by
   show g2T s=_;rw[a0d HR,hx]
  clear hx HR
  by_cases g:1048320<x
  all_goals
   go_enter Tryz.func127,Tryz.ntmps127
   go_wp2_with fail
   refine (b0E s 1 7 _ hm (by omega) (by omega)).mono ?_;rintro e w1 ⟨rfl,hb1⟩;rw[a0d HX];go_wp2;go_ret;refine⟨a3w ?_,hb1⟩;rw[HQ.out]
   first|rw[if_pos (by omega)]|rw[if_neg (by omega)]
end Go.Proofs.YtfigmlfdnickmaaGreatDoor
