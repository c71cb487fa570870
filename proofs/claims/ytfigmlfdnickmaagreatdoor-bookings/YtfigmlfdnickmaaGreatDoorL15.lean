import Derived.Test.YtfigmlfdnickmaaGreatDoorL14
import Derived.RangeFuncKeeps
import Derived.RangeFuncBound
import Derived.RangeFuncLeaves
import Derived.RangeFuncBox
import Derived.Shelf.Abstract
import Derived.OwnWalkIn
import Derived.TacticsInMore
import Derived.LoopNIn
import Derived.LoopIn
import Derived.Deep.CutRange
import Derived.Deep.RegionWith
import Derived.Deep.RegionHeld3
import Derived.Maps.AppendAt
import Derived.Deep.AppendLies
import Derived.Lib.SmallJoins
import Derived.Lib.SliceRun
set_option maxRecDepth 100000
set_option maxHeartbeats 8000000
variable{name:ByteArray}{a b fr k long til u:Int}{B Q d i:Nat}{col:Nat->Option Go.Proofs.YtfigmlfdnickmaaGreatDoor.Col}{r:Go.Proofs.YtfigmlfdnickmaaGreatDoor.Raw}{s:Go.Proofs.YtfigmlfdnickmaaGreatDoor.Desk.St}{v:Go.Value}{w w1 wx:Go.World}
namespace Go.Proofs.YtfigmlfdnickmaaGreatDoor
open Go.RowKit
open Desk (Ent St Ids kept a0C a0Q a1C a2e ofB a0y a2c Mid a1H a0z Inv)
theorem a5W(h:a1c s name u fr til≠0):Desk.a0g s (.enter k name u fr til long)=(s,Desk.Rep.error (a1c s name u fr til)):=by
 have e:Desk.a1M s k name u fr til long=a1c s name u fr til:=by
  unfold Desk.a1M a1c at *
  by_cases h1:Desk.a0S s.ts name u≠0
  ·rw[if_pos h1,if_pos h1]
  ·rw[if_neg h1] at h ⊢;rw[if_neg h1]
   by_cases h2:til<=fr
   ·rw[if_pos h2,if_pos (.inl h2)]
   ·rw[if_neg h2] at h;omega
 simp only[Desk.a0g,e];rw[if_pos h]
theorem a1E(h:a1c s name u fr til=0):Desk.a0S s.ts name u=0/\fr<til:=by
 unfold a1c at h
 by_cases h1:Desk.a0S s.ts name u≠0
 ·rw[if_pos h1] at h;omega
 ·rw[if_neg h1] at h
  by_cases h2:til<=fr
  ·rw[if_pos h2] at h;omega
  ·omega
theorem b0W(h:a1c s name u fr til=0)(hl:s.now+long<=1048320):Desk.a0g s (.enter k name u fr til long)=a1N s (Desk.a8p s k name u fr til long):=by
 obtain⟨h1,h2⟩:=a1E h;simp only[Desk.a0g];unfold Desk.a1M a1N;rw[if_neg (c:=Desk.a0S s.ts name u≠0) (by omega),if_neg (c:=til<=fr\/1048320<s.now+long) (by omega)];have ek:(Desk.a8p s k name u fr til long).kind=k:=rfl;have et:(Desk.a8p s k name u fr til long).a0k=name:=rfl;have eu:(Desk.a8p s k name u fr til long).a0c=u:=rfl;have es:(Desk.a8p s k name u fr til long).a0e=[(fr,til)]:=rfl;rw[ek,et,eu,es]
 by_cases h3:s.given=60
 ·simp[h3]
 ·by_cases h4:k=3
  ·by_cases h5:Desk.a1Y s.es=6
   ·simp[h3,h4,h5]
   ·simp[h3,h4,h5]
  ·cases Desk.a1e s.ts s.es name u [(fr,til)] <;> simp[h3,h4]
def c7l(k:Int)(name:ByteArray)(u fr til un:Int)(N tb:Nat):EG:=⟨⟨0,k,name,u,[(fr,til)],un⟩,N+1,N,1,tb⟩
theorem DSt.asks(h:DSt w d s r col)(kb:Below w.heap.size w w1){un:Int}(hi:i<r.tg.length)(hname:r.tg[i].name=name)(ok:a1H s.now ⟨0,k,name,u,[(fr,til)],un⟩):
  b4h ((w1.alloc (.cells #[.int .i64 fr,.int .i64 til] 60)).alloc (.cells #[.int .i64 0,.int .i64 k,.pointer (some ⟨r.tg[i].tb,0,none⟩),.int .i64 u,.slice (some ⟨w1.heap.size,0,none⟩) 1 1,.int .i64 un] 200)) w1.heap.size d s r col (c7l k name u fr til un w1.heap.size r.tg[i].tb) i:=by
 have kz:Below w1.heap.size w1 ((w1.alloc (.cells #[.int .i64 fr,.int .i64 til] 60)).alloc (.cells #[.int .i64 0,.int .i64 k,.pointer (some ⟨r.tg[i].tb,0,none⟩),.int .i64 u,.slice (some ⟨w1.heap.size,0,none⟩) 1 1,.int .i64 un] 200)):=((zr _ _).alloc (zq _) _).alloc (by simp) _;have d1:=h.dk.later kb
 have eb:((w1.alloc (.cells #[.int .i64 fr,.int .i64 til] 60)).alloc (.cells #[.int .i64 0,.int .i64 k,.pointer (some ⟨r.tg[i].tb,0,none⟩),.int .i64 u,.slice (some ⟨w1.heap.size,0,none⟩) 1 1,.int .i64 un] 200)).heap[w1.heap.size+1]?=some (.cells #[.int .i64 0,.int .i64 k,.pointer (some ⟨r.tg[i].tb,0,none⟩),.int .i64 u,.slice (some ⟨w1.heap.size,0,none⟩) 1 1,.int .i64 un] 200 (0,0)):=by
  have:=a0p (w1.alloc (.cells #[.int .i64 fr,.int .i64 til] 60)) (.cells #[.int .i64 0,.int .i64 k,.pointer (some ⟨r.tg[i].tb,0,none⟩),.int .i64 u,.slice (some ⟨w1.heap.size,0,none⟩) 1 1,.int .i64 un] 200)
  rwa [World.size_alloc] at this
 have sb:((w1.alloc (.cells #[.int .i64 fr,.int .i64 til] 60)).alloc (.cells #[.int .i64 0,.int .i64 k,.pointer (some ⟨r.tg[i].tb,0,none⟩),.int .i64 u,.slice (some ⟨w1.heap.size,0,none⟩) 1 1,.int .i64 un] 200)).heap[w1.heap.size]?=some (.cells #[.int .i64 fr,.int .i64 til] 60 (0,0)) :=
  (Below.heap_alloc _ _ _ (by simp)).trans (a0p w1 _)
 have hs:((w1.alloc (.cells #[.int .i64 fr,.int .i64 til] 60)).alloc (.cells #[.int .i64 0,.int .i64 k,.pointer (some ⟨r.tg[i].tb,0,none⟩),.int .i64 u,.slice (some ⟨w1.heap.size,0,none⟩) 1 1,.int .i64 un] 200)).heap.size=w1.heap.size+2:=by simp
 generalize (w1.alloc (.cells #[.int .i64 fr,.int .i64 til] 60)).alloc (.cells #[.int .i64 0,.int .i64 k,.pointer (some ⟨r.tg[i].tb,0,none⟩),.int .i64 u,.slice (some ⟨w1.heap.size,0,none⟩) 1 1,.int .i64 un] 200)=Z at *;refine⟨⟨d1.later kz,h.of,h.wl,h.hl,h.inv⟩,⟨⟨?_,?_,?_,?_,fun j hj=>?_,?_⟩,?_,?_,fun o=>frozen_of_row _ _ _ _ _ eb,⟨_,eb⟩⟩,d1.none (Nat.le_succ _),d1.none (zq _),Nat.le_succ _,Nat.le_refl _,(by show w1.heap.size+1≠w1.heap.size;omega),kz.size,hi,hname,rfl,ok⟩
 ·show Z.cell? ⟨w1.heap.size+1,0,none⟩=_;simp only[World.cell?,eb];rfl
 ·show Z.cell? ⟨w1.heap.size+1,2,none⟩=_;simp only[World.cell?,eb];rfl
 ·show Z.cell? ⟨w1.heap.size+1,3,none⟩=_;simp only[World.cell?,eb];rfl
 ·show Z.cell? ⟨w1.heap.size+1,4,none⟩=_;simp only[World.cell?,eb];rfl
 ·have hj0:j=0:=by simp[c7l] at hj;omega
  subst hj0;constructor
  ·show Z.cell? ⟨w1.heap.size,0,none⟩=_;simp only[World.cell?,sb];rfl
  ·show Z.cell? ⟨w1.heap.size,1,none⟩=_;simp only[World.cell?,sb];rfl
 ·show w1.heap.size<_;omega
 ·show Z.cell? ⟨w1.heap.size+1,1,none⟩=_;simp only[World.cell?,eb];rfl
 ·show Z.cell? ⟨w1.heap.size+1,5,none⟩=_;simp only[World.cell?,eb];rfl
theorem a1n.ans{Z w2:World}{q:St × Desk.Rep}(h:a1n Z B d col q v w2)(st:Step anyS w.heap.size col col w Z)(hB:w.heap.size<=B)(hQ:w.heap.size<=Q)(hQB:Q<B)(hc:col Q=none)(h7:Q7 Z Q):
  ∃ er n:Int,v=a0s er 0 n (.slice none 0 0) (.slice none 0 0) (.slice none 0 0) (.slice none 0 0)/\Q7 w2 Q/\∀ a b c e f g i,a0l w d col q (a0s er 0 n (.slice none 0 0) (.slice none 0 0) (.slice none 0 0) (.slice none 0 0)) (a2w w2 Q a b c e f g i):=by
 obtain⟨er,n,r',col',rfl,e2,k1,k2,k3,k4,k5⟩:=h;have hl:=World.block_lt_of_cell? _ _ h7.q0;refine⟨er,n,rfl,h7.later (k5.blockN hl hc hQB),fun a b c e f g i=>?_⟩;have:q=(q.1,⟨er,0,n,[],[],[],[]⟩):=by rw[<- e2]
 rw[this];exact a5O k1 k2 k3 k4 (st.trans (k5.any hB)) hQ (k5.keepN hc hQB) er n a b c e f g i
theorem c3F(h:DSt w d s r col)(name:ByteArray)(hn:name.size<=1000)(u fr til:Int)(hl:Desk.a1O (.enter 1 name u fr til 0)):
  Calls Tryz.prog 92 #[.pointer (some ⟨d,0,none⟩),.agg #[.string name,.int .i64 u,.int .i64 fr,.int .i64 til]] w fun e w'=>∃ v,e=.returned v/\a0l w d col (Desk.a0g s (.enter 1 name u fr til 0)) v w':=by
 obtain⟨hX,hXQ⟩:=a2q (w:=w) (.cells #[.string name,.int .i64 u,.int .i64 fr,.int .i64 til] 154);have AK:=a0b (a4e (h.dk.later hX) h.of h.mid name hn u fr til);have HH:=a0b h;have HX:=a0b (zA hX hXQ);have xa:((w.alloc (.cells #[.string name,.int .i64 u,.int .i64 fr,.int .i64 til] 154)).alloc a0f).cell? ⟨w.heap.size,0,none⟩=some (.string name):=by simp[a0f]
 have xb:((w.alloc (.cells #[.string name,.int .i64 u,.int .i64 fr,.int .i64 til] 154)).alloc a0f).cell? ⟨w.heap.size,1,none⟩=some (.int .i64 u):=by simp[a0f]
 have xc:((w.alloc (.cells #[.string name,.int .i64 u,.int .i64 fr,.int .i64 til] 154)).alloc a0f).cell? ⟨w.heap.size,2,none⟩=some (.int .i64 fr):=by simp[a0f]
 have xd:((w.alloc (.cells #[.string name,.int .i64 u,.int .i64 fr,.int .i64 til] 154)).alloc a0f).cell? ⟨w.heap.size,3,none⟩=some (.int .i64 til):=by simp[a0f]
 have hNX:w.heap.size+1<((w.alloc (.cells #[.string name,.int .i64 u,.int .i64 fr,.int .i64 til] 154)).alloc a0f).heap.size:=by simp
 clear h hX hXQ
 go_enter Tryz.func92,Tryz.ntmps92
 go_upto_region 1 with fail
 change Code.wp _ _ _ _ ((w.alloc (.cells #[.string name,.int .i64 u,.int .i64 fr,.int .i64 til] 154)).alloc a0f);generalize (w.alloc (.cells #[.string name,.int .i64 u,.int .i64 fr,.int .i64 til] 154)).alloc a0f=X at *
 go_wp2_with fail
 refine AK.out.mono ?_;rintro e w1 ⟨hp,hb⟩;have BX:Hid (Below w.heap.size w w1):=HX.out.1.trans (hb.mono HX.out.1.size);have QX:Hid (Q7 w1 (w.heap.size+1)):=(Q7.of HX.out.2).later (hb.block _ hNX);rcases hp with ⟨h1,rfl⟩|⟨h1,i,hi,e1,e2,rfl⟩
 ·have HD:=a0b (a5W (k:=1) (long:=0) h1);generalize a1c s name u fr til=er at *;have hb1:(er != 0)=true:=by simpa using h1
  clear h1 AK HX hb xa xb xc xd
  go_wp2_with fail
  refine (a0D er w1).mono ?_;rintro e w2 ⟨rfl,hb2⟩;have hq:=hb2.block (w.heap.size+1) (World.block_lt_of_cell? _ _ QX.out.q0)
  have HF:Hid (a0l w d col (Desk.a0g s (.enter 1 name u fr til 0)) (a0s er 0 0 (.slice none 0 0) (.slice none 0 0) (.slice none 0 0) (.slice none 0 0)) (a2w w2 (w.heap.size+1) (.int .i64 er) (.int .i64 0) (.int .i64 0) (.slice none 0 0) (.slice none 0 0) (.slice none 0 0) (.slice none 0 0))):=by
   rw[HD.out];exact HH.out.said (BX.out.trans (hb2.mono BX.out.size)) (by omega) er 0 _ _ _ _ _ _ _
  obtain⟨q0,q1,q2,q3,q4,q5,q6,fq⟩:=QX.out.later hq;simp only[a0s]
  go_wp2_with fail
  exact bodyPost_ret (v:=a0s er 0 0 (.slice none 0 0) (.slice none 0 0) (.slice none 0 0) (.slice none 0 0)) (by simp[results,Tryz.results92,go_sem,a0s,q0,q1,q2,q3,q4,q5,q6]) rfl ⟨_,rfl,HF.out⟩
 ·have HD:=a0b (b0W (k:=1) (long:=0) h1 (by have:=HH.out.inv.n1;omega));have y1:=(zo (w:=X) (a:=⟨w.heap.size,1,none⟩) (hb.block w.heap.size (by omega))).trans xb;have y2:=(zo (w:=X) (a:=⟨w.heap.size,2,none⟩) (hb.block w.heap.size (by omega))).trans xc;have y3:=(zo (w:=X) (a:=⟨w.heap.size,3,none⟩) (hb.block w.heap.size (by omega))).trans xd;have EN:=a0b (a9B (HH.out.asks BX.out (k:=1) (u:=u) (fr:=fr) (til:=til) (un:=0) hi e1 ⟨hl.2.1,hl.2.2.1,(by show 1<=40;omega),(by simp),(by intro q hq;have:q=(fr,til):=List.mem_singleton.1 hq;subst this;have:=(a1E h1).2;exact⟨hl.2.2.2.1,this,hl.2.2.2.2.2.2⟩),List.pairwise_singleton _ _,.inl ⟨rfl,rfl⟩⟩));have AL:Hid (Below w1.heap.size w1 ((w1.alloc (.cells #[.int .i64 fr,.int .i64 til] 60)).alloc (.cells #[.int .i64 0,.int .i64 1,.pointer (some ⟨r.tg[i].tb,0,none⟩),.int .i64 u,.slice (some ⟨w1.heap.size,0,none⟩) 1 1,.int .i64 0] 200))):=((zr _ _).alloc (zq _) _).alloc (by simp) _;have QL:Hid (w.heap.size+1<w1.heap.size):=World.block_lt_of_cell? _ _ QX.out.q0;clear h1 AK HX hb xa xb xc xd e1 e2
  go_wp2_with fail
  refine EN.out.mono ?_;rintro e w2 ⟨v,rfl,ep⟩;obtain⟨er,n,rfl,q7,hf⟩:=ep.ans (Q:=(w.heap.size+1)) (Step.below (BX.out.trans (AL.out.mono BX.out.size))) BX.out.size (by omega) QL.out (HH.out.dk.none (by omega)) (QX.out.later (AL.out.block _ QL.out))
  have HF:Hid (a0l w d col (Desk.a0g s (.enter 1 name u fr til 0)) (a0s er 0 n (.slice none 0 0) (.slice none 0 0) (.slice none 0 0) (.slice none 0 0)) (a2w w2 (w.heap.size+1) (.int .i64 er) (.int .i64 0) (.int .i64 n) (.slice none 0 0) (.slice none 0 0) (.slice none 0 0) (.slice none 0 0))):=by
   rw[HD.out];exact hf _ _ _ _ _ _ _
  clear ep hf EN;obtain⟨q0,q1,q2,q3,q4,q5,q6,fq⟩:=q7;simp only[a0s]
  go_wp2_with fail
  exact bodyPost_ret (v:=a0s er 0 n (.slice none 0 0) (.slice none 0 0) (.slice none 0 0) (.slice none 0 0)) (by simp[results,Tryz.results92,go_sem,a0s,q0,q1,q2,q3,q4,q5,q6]) rfl ⟨_,rfl,HF.out⟩
theorem DSt.levels(h:DSt w d s r col)(hi:i<r.tg.length):∀ p,0<=a1C r.tg[i].name s.es p/\a1C r.tg[i].name s.es p<=1000000:=fun p=>by
 have h1:=Desk.a7j r.tg[i].name p s.es h.mid.small;have h2:=a1x h.mid;omega
theorem c1l(h:DSt w d s r col)(k:Below w.heap.size w wx)(hi:i<r.tg.length)(h0:0<=a)(h1:a<b)(h2:b<=1048320):
  Calls Tryz.prog 153 #[.pointer (some ⟨r.tg[i].tb,2,none⟩),.agg #[.int .i64 a,.int .i64 b]] wx fun e w'=>e=.returned (.int .i64 (Desk.a1Q r.tg[i].name s.es a b))/\Below wx.heap.size wx w':=by
 obtain⟨ul,us,Fl,Fs,t1,t2⟩:=(h.dk.later k).th i hi;have hA:=h.levels hi;have e:=Desk.c0m (name:=r.tg[i].name) h.mid.small (a6d h.mid) h0 h1 h2;unfold b4T at e;have lv:=t1.lv;rw[(h.of.th i hi).1] at lv;refine (b7x (b1M (a1C r.tg[i].name s.es)) _ 2 ul Fl a b wx t1.c2 lv (a9e hA) (a6L (fun p=>(hA p).1)) h1).mono ?_;rintro e2 w' ⟨rfl,hb⟩;exact⟨by rw[<- e],hb⟩
theorem c1k(h:DSt w d s r col)(k:Below w.heap.size w wx)(hi:i<r.tg.length)(h0:0<=a)(h1:a<b)(h2:b<=1048320)(h3:1<=long)(h4:long<=1048320)(hu:0<=u):
  Calls Tryz.prog 154 #[.pointer (some ⟨r.tg[i].tb,2,none⟩),.agg #[.int .i64 a,.int .i64 b],.int .i64 long,.int .i64 (r.tg[i].a0c-u)] wx fun e w'=>∃ q:Option Int,e=.returned (fmV q)/\Desk.a9A s.ts s.es r.tg[i].name u long a b=Desk.c3V q/\Below wx.heap.size wx w':=by
 obtain⟨ul,us,Fl,Fs,t1,t2⟩:=(h.dk.later k).th i hi;have hA:=h.levels hi;have lv:=t1.lv;rw[(h.of.th i hi).1] at lv
 have hun:Desk.a0h r.tg[i].name s.ts=r.tg[i].a0c:=by
  have e1:=a8G h.mid.tn (i:=i) (by rw[<- h.of.len];exact hi);rw[h.of.tsAt hi] at e1;exact e1
 refine (c3K (b1M (a1C r.tg[i].name s.es)) _ 2 ul Fl a b long (r.tg[i].a0c-u) wx t1.c2 lv (a9e hA) (a6L (fun p=>(hA p).1)) h0 h1 h2 h3 h4).mono ?_;rintro e2 w' ⟨q,rfl,hq,hb⟩;rw[<- hun] at hq;exact⟨q,rfl,Desk.b9G h.mid.small (a6d h.mid) h0 h2 hu h3 hq,hb⟩
theorem b2e(hm:Mid s)(h:a1c s name 0 fr til≠0):Desk.a0g s (.peak name fr til)=(s,Desk.Rep.error (a1c s name 0 fr til)):=by
 have hn:=Desk.a4g hm.tu name;simp only[Desk.a0g];unfold a1c Desk.a0S at *
 by_cases h1:Desk.a0h name s.ts=0
 ·rw[if_pos h1];simp[h1]
 ·have h2:¬ (Desk.a0h name s.ts<0):=by omega
  simp only[h1,h2] at h ⊢
  by_cases h3:til<=fr
  ·simp[h3]
  ·simp[h3] at h
theorem c1a(h:a1c s name 0 fr til=0):Desk.a0g s (.peak name fr til)=(s,Desk.Rep.num (Desk.a1Q name s.es fr til)):=by
 obtain⟨h1,h2⟩:=a1E h;have h3:Desk.a0h name s.ts≠0:=fun e=>by unfold Desk.a0S at h1;rw[if_pos e] at h1;omega
 simp only[Desk.a0g];rw[if_neg h3,if_neg (by omega)]
theorem c5t(args:Array Value)(w:World):(callFunc 153 args).run Tryz.prog w=.ok (.enter 153 args) w:=by kernel_rfl
theorem c2D(h:DSt w d s r col)(name:ByteArray)(hn:name.size<=1000)(fr til:Int)(hl:Desk.a1O (.peak name fr til)):
  Calls Tryz.prog 100 #[.pointer (some ⟨d,0,none⟩),.agg #[.string name,.int .i64 fr,.int .i64 til]] w fun e w'=>∃ v,e=.returned v/\a0l w d col (Desk.a0g s (.peak name fr til)) v w':=by
 obtain⟨hX,hXQ⟩:=a2q (w:=w) (.cells #[.string name,.int .i64 fr,.int .i64 til] 176);have x0:((w.alloc (.cells #[.string name,.int .i64 fr,.int .i64 til] 176)).alloc a0f).cell? ⟨w.heap.size,0,none⟩=some (.string name):=by simp[a0f]
 have x1:((w.alloc (.cells #[.string name,.int .i64 fr,.int .i64 til] 176)).alloc a0f).cell? ⟨w.heap.size,1,none⟩=some (.int .i64 fr):=by simp[a0f]
 have x2:((w.alloc (.cells #[.string name,.int .i64 fr,.int .i64 til] 176)).alloc a0f).cell? ⟨w.heap.size,2,none⟩=some (.int .i64 til):=by simp[a0f]
 have hNX:w.heap.size+1<((w.alloc (.cells #[.string name,.int .i64 fr,.int .i64 til] 176)).alloc a0f).heap.size:=by simp
 have AK:=a0b (a4e (h.dk.later hX) h.of h.mid name hn 0 fr til);have HH:=a0b h;have HX:=a0b (zA hX hXQ);clear h hX hXQ
 go_enter Tryz.func100,Tryz.ntmps100
 go_upto_region 1 with fail
 change Code.wp _ _ _ _ ((w.alloc (.cells #[.string name,.int .i64 fr,.int .i64 til] 176)).alloc a0f);generalize (w.alloc (.cells #[.string name,.int .i64 fr,.int .i64 til] 176)).alloc a0f=X at *
 go_wp2_with fail
 refine AK.out.mono ?_;rintro e w1 ⟨hp,hb⟩;have BX:Hid (Below w.heap.size w w1):=HX.out.1.trans (hb.mono HX.out.1.size);have QX:Hid (Q7 w1 (w.heap.size+1)):=(Q7.of HX.out.2).later (hb.block _ hNX);rcases hp with ⟨h1,rfl⟩|⟨h1,i,hi,e1,e2,rfl⟩
 ·have HD:=a0b (b2e HH.out.mid h1);generalize a1c s name 0 fr til=er at *;have hb1:(er != 0)=true:=by simpa using h1
  clear h1 AK HX hb x0 x1 x2
  go_wp2_with fail
  refine (a0D er w1).mono ?_;rintro e w2 ⟨rfl,hb2⟩;have hq:=hb2.block (w.heap.size+1) (World.block_lt_of_cell? _ _ QX.out.q0)
  have HF:Hid (a0l w d col (Desk.a0g s (.peak name fr til)) (a0s er 0 0 (.slice none 0 0) (.slice none 0 0) (.slice none 0 0) (.slice none 0 0)) (a2w w2 (w.heap.size+1) (.int .i64 er) (.int .i64 0) (.int .i64 0) (.slice none 0 0) (.slice none 0 0) (.slice none 0 0) (.slice none 0 0))):=by
   rw[HD.out];exact HH.out.said (BX.out.trans (hb2.mono BX.out.size)) (by omega) er 0 _ _ _ _ _ _ _
  obtain⟨q0,q1,q2,q3,q4,q5,q6,fq⟩:=QX.out.later hq;simp only[a0s]
  go_wp2_with fail
  exact bodyPost_ret (v:=a0s er 0 0 (.slice none 0 0) (.slice none 0 0) (.slice none 0 0) (.slice none 0 0)) (by simp[results,Tryz.results100,go_sem,a0s,q0,q1,q2,q3,q4,q5,q6]) rfl ⟨_,rfl,HF.out⟩
 ·have HD:=a0b (c1a h1);have y1:=(zo (w:=X) (a:=⟨w.heap.size,1,none⟩) (hb.block w.heap.size (by omega))).trans x1;have y2:=(zo (w:=X) (a:=⟨w.heap.size,2,none⟩) (hb.block w.heap.size (by omega))).trans x2;have MC:=a0b (c1l HH.out (wx:=w1.drew) BX.out.drew hi hl.1 (a1E h1).2 hl.2.2.2);rw[e1] at MC;have AF:Hid (∀ w2,Below w1.drew.heap.size w1.drew w2->Q7 w2 (w.heap.size+1)/\a0l w d col (Desk.a0g s (.peak name fr til)) (a0s 0 0 (Desk.a1Q name s.es fr til) (.slice none 0 0) (.slice none 0 0) (.slice none 0 0) (.slice none 0 0)) (a2w w2 (w.heap.size+1) (.int .i64 0) (.int .i64 0) (.int .i64 (Desk.a1Q name s.es fr til)) (.slice none 0 0) (.slice none 0 0) (.slice none 0 0) (.slice none 0 0))):=fun w2 k2=>⟨QX.out.later (k2.block _ (World.block_lt_of_cell? _ _ QX.out.q0)),by rw[HD.out];exact HH.out.said (BX.out.drew.trans (k2.mono BX.out.size)) (by omega) 0 (Desk.a1Q name s.es fr til) _ _ _ _ _ _ _⟩
  clear h1 AK HX hb x0 x1 x2 e1 e2 HD;generalize (Desk.a1Q name s.es fr til)=nn at *
  go_upto_region 4 with fail
  go_region_law (first
   |(refine a2k (by rfl) 153 _ _ (by rfl) _ (by simp[Act.eval]) (c5t _ _) MC.out ?_;rintro e w2 ⟨rfl,hb2⟩;refine⟨_,rfl,?_⟩;have FF:=a0b (AF.out w2 hb2);obtain⟨⟨q0,q1,q2,q3,q4,q5,q6,fq⟩,_⟩:=AF.out w2 hb2))
  all_goals
   go_wp2_with fail
   exact bodyPost_ret (v:=a0s 0 0 nn (.slice none 0 0) (.slice none 0 0) (.slice none 0 0) (.slice none 0 0)) (by simp[results,Tryz.results100,go_sem,a0s,q0,q1,q2,q3,q4,q5,q6]) rfl ⟨_,rfl,FF.out.2⟩
theorem b2f(h:a1c s name u fr til≠0):Desk.a0g s (.find name u long fr til)=(s,Desk.Rep.error (a1c s name u fr til)):=by
 simp only[Desk.a0g];unfold a1c at *
 by_cases h1:Desk.a0S s.ts name u≠0
 ·rw[if_pos h1,if_pos h1]
 ·rw[if_neg h1] at h ⊢;rw[if_neg h1]
  by_cases h3:til<=fr
  ·rw[if_pos h3,if_pos h3]
  ·rw[if_neg h3] at h;omega
theorem c1b(h:a1c s name u fr til=0):Desk.a0g s (.find name u long fr til)=(s,Desk.Rep.num (Desk.a9A s.ts s.es name u long fr til)):=by
 obtain⟨h1,h2⟩:=a1E h;simp only[Desk.a0g];rw[if_neg (by omega),if_neg (by omega)]
theorem c3j(h:DSt w d s r col)(name:ByteArray)(hn:name.size<=1000)(u long fr til:Int)(hl:Desk.a1O (.find name u long fr til)):
  Calls Tryz.prog 101 #[.pointer (some ⟨d,0,none⟩),.agg #[.string name,.int .i64 u,.int .i64 long,.int .i64 fr,.int .i64 til]] w fun e w'=>∃ v,e=.returned v/\a0l w d col (Desk.a0g s (.find name u long fr til)) v w':=by
 obtain⟨hX,hXQ⟩:=a2q (w:=w) (.cells #[.string name,.int .i64 u,.int .i64 long,.int .i64 fr,.int .i64 til] 178);have x0:((w.alloc (.cells #[.string name,.int .i64 u,.int .i64 long,.int .i64 fr,.int .i64 til] 178)).alloc a0f).cell? ⟨w.heap.size,0,none⟩=some (.string name):=by simp[a0f]
 have x1:((w.alloc (.cells #[.string name,.int .i64 u,.int .i64 long,.int .i64 fr,.int .i64 til] 178)).alloc a0f).cell? ⟨w.heap.size,1,none⟩=some (.int .i64 u):=by simp[a0f]
 have x2:((w.alloc (.cells #[.string name,.int .i64 u,.int .i64 long,.int .i64 fr,.int .i64 til] 178)).alloc a0f).cell? ⟨w.heap.size,2,none⟩=some (.int .i64 long):=by simp[a0f]
 have x3:((w.alloc (.cells #[.string name,.int .i64 u,.int .i64 long,.int .i64 fr,.int .i64 til] 178)).alloc a0f).cell? ⟨w.heap.size,3,none⟩=some (.int .i64 fr):=by simp[a0f]
 have x4:((w.alloc (.cells #[.string name,.int .i64 u,.int .i64 long,.int .i64 fr,.int .i64 til] 178)).alloc a0f).cell? ⟨w.heap.size,4,none⟩=some (.int .i64 til):=by simp[a0f]
 have hNX:w.heap.size+1<((w.alloc (.cells #[.string name,.int .i64 u,.int .i64 long,.int .i64 fr,.int .i64 til] 178)).alloc a0f).heap.size:=by simp
 have AK:=a0b (a4e (h.dk.later hX) h.of h.mid name hn u fr til);have HH:=a0b h;have HX:=a0b (zA hX hXQ);clear h hX hXQ
 go_enter Tryz.func101,Tryz.ntmps101
 go_upto_region 1 with fail
 change Code.wp _ _ _ _ ((w.alloc (.cells #[.string name,.int .i64 u,.int .i64 long,.int .i64 fr,.int .i64 til] 178)).alloc a0f);generalize (w.alloc (.cells #[.string name,.int .i64 u,.int .i64 long,.int .i64 fr,.int .i64 til] 178)).alloc a0f=X at *
 go_wp2_with fail
 refine AK.out.mono ?_;rintro e w1 ⟨hp,hb⟩;have BX:Hid (Below w.heap.size w w1):=HX.out.1.trans (hb.mono HX.out.1.size);have QX:Hid (Q7 w1 (w.heap.size+1)):=(Q7.of HX.out.2).later (hb.block _ hNX);rcases hp with ⟨h1,rfl⟩|⟨h1,i,hi,e1,e2,rfl⟩
 ·have HD:=a0b (b2f (long:=long) h1);generalize a1c s name u fr til=er at *;have hb1:(er != 0)=true:=by simpa using h1
  clear h1 AK HX hb x0 x1 x2 x3 x4
  go_wp2_with fail
  refine (a0D er w1).mono ?_;rintro e w2 ⟨rfl,hb2⟩;have hq:=hb2.block (w.heap.size+1) (World.block_lt_of_cell? _ _ QX.out.q0)
  have HF:Hid (a0l w d col (Desk.a0g s (.find name u long fr til)) (a0s er 0 0 (.slice none 0 0) (.slice none 0 0) (.slice none 0 0) (.slice none 0 0)) (a2w w2 (w.heap.size+1) (.int .i64 er) (.int .i64 0) (.int .i64 0) (.slice none 0 0) (.slice none 0 0) (.slice none 0 0) (.slice none 0 0))):=by
   rw[HD.out];exact HH.out.said (BX.out.trans (hb2.mono BX.out.size)) (by omega) er 0 _ _ _ _ _ _ _
  obtain⟨q0,q1,q2,q3,q4,q5,q6,fq⟩:=QX.out.later hq;simp only[a0s]
  go_wp2_with fail
  exact bodyPost_ret (v:=a0s er 0 0 (.slice none 0 0) (.slice none 0 0) (.slice none 0 0) (.slice none 0 0)) (by simp[results,Tryz.results101,go_sem,a0s,q0,q1,q2,q3,q4,q5,q6]) rfl ⟨_,rfl,HF.out⟩
 ·have HD:=a0b (c1b (long:=long) h1);have y1:=(zo (w:=X) (a:=⟨w.heap.size,1,none⟩) (hb.block w.heap.size (by omega))).trans x1;have y2:=(zo (w:=X) (a:=⟨w.heap.size,2,none⟩) (hb.block w.heap.size (by omega))).trans x2;have y3:=(zo (w:=X) (a:=⟨w.heap.size,3,none⟩) (hb.block w.heap.size (by omega))).trans x3;have y4:=(zo (w:=X) (a:=⟨w.heap.size,4,none⟩) (hb.block w.heap.size (by omega))).trans x4;obtain⟨ul,us,Fl,Fs,t1,t2⟩:=(HH.out.dk.later BX.out).th i hi;have cu:=t1.c1
  have hu9:1<=r.tg[i].a0c/\r.tg[i].a0c<=9:=by
   have hin:(r.tg[i].name,r.tg[i].a0c)∈s.ts:=by rw[<- HH.out.of.tsAt hi];exact zg _
   exact HH.out.inv.tu _ hin
  have hw1:IntKind.i64.wrap (r.tg[i].a0c-u)=r.tg[i].a0c-u:=a0i (by have:=hl.1;have:=hl.2.1;omega) (by have:=hl.1;omega);have RC:=a0b (c1k HH.out (wx:=w1.drew) BX.out.drew (u:=u) hi hl.2.2.2.2.1 (a1E h1).2 hl.2.2.2.2.2.2.2 hl.2.2.1 hl.2.2.2.1 (by have:=hl.1;omega));rw[e1] at RC
  have RD:Hid (Calls Tryz.prog 154 #[.pointer (some ⟨r.tg[i].tb,2,none⟩),.agg #[.int .i64 fr,.int .i64 til],.int .i64 long,.int .i64 (r.tg[i].a0c-u)] w1.drew fun e w'=>∃ (x:Int) (bq:Bool),e=.returned (.tuple #[.int .i64 x,.bool bq])/\Desk.a9A s.ts s.es name u long fr til=(if bq then x else -1)/\Below w1.drew.heap.size w1.drew w'):=by
   refine RC.out.mono ?_;rintro e w' ⟨q,rfl,hq,hb2⟩
   cases q with
   |none=>exact⟨0,false,rfl,hq,hb2⟩
   |some x=>exact⟨x,true,rfl,hq,hb2⟩
  have AF:Hid (∀ w2 nn,Below w1.drew.heap.size w1.drew w2->(Desk.a9A s.ts s.es name u long fr til)=nn->Q7 w2 (w.heap.size+1)/\a0l w d col (Desk.a0g s (.find name u long fr til)) (a0s 0 0 nn (.slice none 0 0) (.slice none 0 0) (.slice none 0 0) (.slice none 0 0)) (a2w w2 (w.heap.size+1) (.int .i64 0) (.int .i64 0) (.int .i64 nn) (.slice none 0 0) (.slice none 0 0) (.slice none 0 0) (.slice none 0 0))):=fun w2 nn k2 e=>⟨QX.out.later (k2.block _ (World.block_lt_of_cell? _ _ QX.out.q0)),by rw[HD.out,<- e];exact HH.out.said (BX.out.drew.trans (k2.mono BX.out.size)) (by omega) 0 (Desk.a9A s.ts s.es name u long fr til) _ _ _ _ _ _ _⟩
  clear h1 AK HX hb x0 x1 x2 x3 x4 e1 e2 HD t1 t2 hu9 RC;generalize r.tg[i].a0c=un at *;generalize r.tg[i].tb=tb at *
  go_upto_region 4 with fail
  have AC:Hid (∀ w2,Below w1.drew.heap.size w1.drew w2->w2.cell? ⟨w.heap.size,1,none⟩=some (.int .i64 u)/\w2.cell? ⟨w.heap.size,2,none⟩=some (.int .i64 long)/\w2.cell? ⟨w.heap.size,3,none⟩=some (.int .i64 fr)/\w2.cell? ⟨w.heap.size,4,none⟩=some (.int .i64 til)/\w2.cell? ⟨tb,1,none⟩=some (.int .i64 un)):=fun w2 k=>⟨a0a k y1,a0a k y2,a0a k y3,a0a k y4,a0a k cu⟩
  go_region_held3 (fun w'=>w'.cell? ⟨w.heap.size,1,none⟩=some (.int .i64 u)/\w'.cell? ⟨w.heap.size,2,none⟩=some (.int .i64 long)/\w'.cell? ⟨w.heap.size,3,none⟩=some (.int .i64 fr)/\w'.cell? ⟨w.heap.size,4,none⟩=some (.int .i64 til)/\w'.cell? ⟨tb,1,none⟩=some (.int .i64 un))
   (first
    |exact⟨y1,y2,y3,y4,cu⟩
    |exact AC.out _ hb2)
   (first
    |(go_at_call 154;refine RD.out.mono ?_;rintro e w2 ⟨x,bq,rfl,hq,hb2⟩))
  have HB:=a0b hb2
  cases bq
  all_goals
   have HQ:=a0b hq;clear hq hb2 AC y1 y2 y3 y4 cu
  ·have FF:=a0b (AF.out w2 (-1) HB.out HQ.out);obtain⟨⟨q0,q1,q2,q3,q4,q5,q6,fq⟩,_⟩:=AF.out w2 (-1) HB.out HQ.out;clear AF RD
   go_wp2_with fail
   exact bodyPost_ret (v:=a0s 0 0 (-1) (.slice none 0 0) (.slice none 0 0) (.slice none 0 0) (.slice none 0 0)) (by simp[results,Tryz.results101,go_sem,a0s,q0,q1,q2,q3,q4,q5,q6]) rfl ⟨_,rfl,FF.out.2⟩
  ·have FF:=a0b (AF.out w2 x HB.out HQ.out);obtain⟨⟨q0,q1,q2,q3,q4,q5,q6,fq⟩,_⟩:=AF.out w2 x HB.out HQ.out;clear AF RD
   go_wp2_with fail
   exact bodyPost_ret (v:=a0s 0 0 x (.slice none 0 0) (.slice none 0 0) (.slice none 0 0) (.slice none 0 0)) (by simp[results,Tryz.results101,go_sem,a0s,q0,q1,q2,q3,q4,q5,q6]) rfl ⟨_,rfl,FF.out.2⟩
theorem a7O:∀ (n:Nat)(lo hi:Int),Lev.canon n (fun _=>0) lo hi=.nil
 |0,_,_=>by simp[Lev.canon,Lev.mk,Lev.isNil]
 |n+1,lo,hi=>by
  simp only[Lev.canon];have h1:=a7O n lo (Lev.mid lo hi);have h2:=a7O n (Lev.mid lo hi) hi;rw[h1,h2];simp[Lev.mk,Lev.isNil]
theorem c0x:b1M (fun _=>0)=.nil:=a7O 20 0 1048320
theorem b2H{name:ByteArray}:∀ {es:List Ent},(∀ e∈es,ofB name e=false)->a1C name es=fun _=>0
 |[],_=>by funext p;rfl
 |e :: es,h=>by
  funext p
  have ih:=congrFun (b2H (name:=name) (es:=es) (fun x hx=>h x (List.mem_cons_of_mem _ hx))) p;simp only[a1C,h e List.mem_cons_self,ih];rfl
theorem Of.a0k(h:Of s r){tb:Nat}(hno:∀ t∈r.tg,t.name≠name):Of { s with ts:=s.ts++[(name,u)] } { r with tg:=r.tg++[⟨name,u,tb,fun _=>0,.nil⟩] }:=by
 have hof:∀ e∈s.es,ofB name e=false:=fun e he=>by
  obtain⟨g,hg,rfl⟩:=h.get he;obtain⟨i,hi,e1,e2⟩:=h.tb g hg;have:a0y g.e.a0k name=false:=a3d.2 (fun e3=>hno _ (zg hi) (by rw[e1,e3]));simp[ofB,this]
 refine⟨h.now,h.given,by show (r.tg++[_]).map _=_;rw[List.map_append,h.ts];rfl,h.es,fun i hi=>?_,fun g hg=>?_⟩
 ·have hi':i<r.tg.length+1:=by simpa using hi
  by_cases e:i<r.tg.length
  ·have e2:(r.tg++[(⟨name,u,tb,fun _=>0,.nil⟩:TG)])[i]'(by simpa using hi')=r.tg[i]:=List.getElem_append_left e;show (r.tg++[(⟨name,u,tb,fun _=>0,.nil⟩:TG)])[i].A=a1C (r.tg++[(⟨name,u,tb,fun _=>0,.nil⟩:TG)])[i].name s.es/\a2e (r.tg++[(⟨name,u,tb,fun _=>0,.nil⟩:TG)])[i].name s.es (atE r.eg) (r.tg++[(⟨name,u,tb,fun _=>0,.nil⟩:TG)])[i].T;rw[e2];exact h.th i e
  ·have e3:i=r.tg.length:=by omega
   subst e3;have e2:(r.tg++[(⟨name,u,tb,fun _=>0,.nil⟩:TG)])[r.tg.length]'(by simp)=⟨name,u,tb,fun _=>0,.nil⟩:=by simp
   show (r.tg++[(⟨name,u,tb,fun _=>0,.nil⟩:TG)])[r.tg.length].A=a1C (r.tg++[(⟨name,u,tb,fun _=>0,.nil⟩:TG)])[r.tg.length].name s.es/\a2e (r.tg++[(⟨name,u,tb,fun _=>0,.nil⟩:TG)])[r.tg.length].name s.es (atE r.eg) (r.tg++[(⟨name,u,tb,fun _=>0,.nil⟩:TG)])[r.tg.length].T;rw[e2];refine⟨(b2H hof).symm,List.Pairwise.nil,fun z=>?_⟩;constructor
   ·intro hz;simp[Avl.a0w] at hz
   ·rintro ⟨e,he,h1,_⟩;rw[hof e he] at h1;cases h1
 ·obtain⟨i,hi,e1,e2⟩:=h.tb g hg;have e3:(r.tg++[(⟨name,u,tb,fun _=>0,.nil⟩:TG)])[i]'(by simp;omega)=r.tg[i]:=List.getElem_append_left hi;refine⟨i,(by show i<(r.tg++[_]).length;simp;omega),?_,?_⟩
  ·exact (congrArg TG.name e3).trans e1
  ·exact e2.trans (congrArg TG.tb e3).symm
theorem b5R(h:b2r r.tg name=none):∀ t∈r.tg,t.name≠name:=by
 intro t ht e;rw[a3r] at h
 cases e2:r.tg.find? fun t=>a0y t.name name with
 |none=>exact (List.find?_eq_none.1 e2 t ht) (a4l.2 e)
 |some y=>rw[e2] at h;cases h
theorem DSt.newT(h:DSt w d s r col)(k:Below w.heap.size w w1)(hn:name.size<=1000)(ht:b2r r.tg name=none)(hl:r.tg.length<4)(h7:Q7 w1 (w.heap.size+1)):
  ∃ m,w1.cell? ⟨d,2,none⟩=some (.map (some m))/\∃ w3,(Instr.mapUpdate 137 (.map (some m)) (.string name) (.pointer (some ⟨w1.heap.size,0,none⟩))).run Tryz.prog (w1.alloc (.cells #[.string name,.int .i64 u,.pointer none,.pointer none] 243)).drew=.ok () w3/\Q7 w3 (w.heap.size+1)/\∀ a b c e f g i,a0l w d col ({ s with ts:=s.ts++[(name,u)] },Desk.Rep.num 0) (a0s 0 0 0 (.slice none 0 0) (.slice none 0 0) (.slice none 0 0) (.slice none 0 0)) (a2w w3 (w.heap.size+1) a b c e f g i):=by
 have d1:=h.dk.later k;have kz:Below w1.heap.size w1 (w1.alloc (.cells #[.string name,.int .i64 u,.pointer none,.pointer none] 243)).drew:=((zr _ _).alloc (zq _) _).drew;have d2:=d1.later kz;have hb:=a0p w1 (.cells #[.string name,.int .i64 u,.pointer none,.pointer none] 243);have hbd:(w1.alloc (.cells #[.string name,.int .i64 u,.pointer none,.pointer none] 243)).drew.heap[w1.heap.size]?=some (.cells #[.string name,.int .i64 u,.pointer none,.pointer none] 243 (0,0)):=hb;have hq2:Q7 (w1.alloc (.cells #[.string name,.int .i64 u,.pointer none,.pointer none] 243)).drew (w.heap.size+1):=h7.later (kz.block _ (World.block_lt_of_cell? _ _ h7.q0));have hq0:w.heap.size+1<w1.heap.size:=World.block_lt_of_cell? _ _ h7.q0;obtain⟨m0,_,a0,_⟩:=d1.mt;obtain⟨m,f,a1,a2,a3,a4⟩:=d2.mt
 have hm:m0=m:=by
  have e:=kz.cell (p:=⟨d,2,none⟩) (World.block_lt_of_cell? _ _ a0);rw[a0,a1] at e
  injection e with e;injection e with e;injection e with e
  exact e.symm
 subst hm;refine⟨m0,a0,?_⟩;generalize (w1.alloc (.cells #[.string name,.int .i64 u,.pointer none,.pointer none] 243)).drew=Z at *;obtain⟨w3,hrun,p1,p2⟩:=a3.storeRun c0z Tryz.underlying137 (by unfold maxLen;omega) (b4Z hn) (by unfold b8f;trivial) w1.heap.size
 have hT:TH Z w1.heap.size name u (fun _=>0) .nil none none [] []:=by
  refine⟨?_,?_,?_,?_,fun o=>frozen_of_row _ _ _ _ _ hbd,?_,⟨rfl,rfl⟩,by simp,by simp,by simp⟩
  ·simp only[World.cell?,hbd];rfl
  ·simp only[World.cell?,hbd];rfl
  ·simp only[World.cell?,hbd];rfl
  ·simp only[World.cell?,hbd];rfl
  ·rw[c0x];exact⟨rfl,rfl⟩
 obtain⟨c2,e1,e2,e3⟩:=d2.insTn (t:=⟨name,u,w1.heap.size,fun _=>0,.nil⟩) (B:=w1.heap.size) a1 a2 a4 hT (d1.none (zq _)) (zq _) (b5R ht) p1 p2;have hqc:col (w.heap.size+1)=none:=h.dk.none (by omega);have hmq:w.heap.size+1≠m0:=fun e=>by rw[e,a2] at hqc;cases hqc
 have hql:w.heap.size+1<Z.heap.size:=World.block_lt_of_cell? _ _ hq2.q0;have hb3:w3.heap[w.heap.size+1]?=Z.heap[w.heap.size+1]?:=p2.block _ hql (fun e=>hmq (Option.some.inj e));refine⟨w3,hrun,hq2.later hb3,fun a b c e f g i=>a5O e1 (h.of.a0k (b5R ht)) h.wl h.hl (((Step.below k).trans (Step.below kz)).trans (e2.any k.size)) (by omega) (e3 _ hqc (by show w.heap.size+1≠w1.heap.size;omega)) 0 0 a b c e f g i⟩
theorem c4o(w:World):(zeroValue 198).run Tryz.prog w=.ok (.pointer none) w:=by simp[go_sem]
theorem b9j(h:DSt w d s r col)(name:ByteArray)(hn:name.size<=1000)(u:Int):
  Calls Tryz.prog 91 #[.pointer (some ⟨d,0,none⟩),.agg #[.string name,.int .i64 u]] w fun e w'=>∃ v,e=.returned v/\a0l w d col (Desk.a0g s (.a0k name u)) v w':=by
 obtain⟨hX,hXQ⟩:=a2q (w:=w) (.cells #[.string name,.int .i64 u] 149);have x0:((w.alloc (.cells #[.string name,.int .i64 u] 149)).alloc a0f).cell? ⟨w.heap.size,0,none⟩=some (.string name):=by simp[a0f]
 have x1:((w.alloc (.cells #[.string name,.int .i64 u] 149)).alloc a0f).cell? ⟨w.heap.size,1,none⟩=some (.int .i64 u):=by simp[a0f]
 have hNX:w.heap.size+1<((w.alloc (.cells #[.string name,.int .i64 u] 149)).alloc a0f).heap.size:=by simp
 have HH:=a0b h;have HX:=a0b (zA hX hXQ);clear h hX hXQ
 go_enter Tryz.func91,Tryz.ntmps91
 go_upto_region 1 with fail
 change Code.wp _ _ _ _ ((w.alloc (.cells #[.string name,.int .i64 u] 149)).alloc a0f);generalize (w.alloc (.cells #[.string name,.int .i64 u] 149)).alloc a0f=X at *;have hx:=HH.out.dk.later HX.out.1;obtain⟨m,f,a1,a2,a3,a4⟩:=hx.mt;have hlook:=(a3.block (w':=X.drew) rfl).look c0z Tryz.underlying137 (c4o X.drew) (b4Z hn);have hlen:=(a3.block (w':=X.drew) rfl).len Tryz.underlying137;rw[a4 name] at hlook;have QX:Hid (Q7 X.drew (w.heap.size+1)):=Q7.of HX.out.2;have BX:Hid (Below w.heap.size w X.drew):=HX.out.1.drew;have htl:=HH.out.inv.tl;rw[<- HH.out.of.len] at htl
 cases ht:b2r r.tg name with
 |some b =>
  rw[ht] at hlook;have hlook':(Instr.lookup 137 (.map (some m)) (.string name) false).run Tryz.prog X.drew=.ok (.pointer (some ⟨b,0,none⟩)) X.drew:=hlook
  have HD:Hid (Desk.a0g s (.a0k name u)=(s,Desk.Rep.error 4)):=by
   obtain⟨i,hi,e1,e2,e3⟩:=b2B HH.out.of HH.out.inv.tn ht;have hin:(r.tg[i].name,r.tg[i].a0c)∈s.ts:=by rw[<- HH.out.of.tsAt hi];exact zg _
   have:=(HH.out.inv.tu _ hin).1;simp only[Hid,Desk.a0g];rw[if_pos (by rw[e3];omega)]
  clear hlook a3 a4 ht hx HX hlen
  go_big_region
  clear hlook' x0 x1 a1
  go_wp2_with fail
  refine (a0D 4 X.drew).mono ?_;rintro e w2 ⟨rfl,hb2⟩;have hq:=hb2.block (w.heap.size+1) (World.block_lt_of_cell? _ _ QX.out.q0)
  have HF:Hid (a0l w d col (Desk.a0g s (.a0k name u)) (a0s 4 0 0 (.slice none 0 0) (.slice none 0 0) (.slice none 0 0) (.slice none 0 0)) (a2w w2 (w.heap.size+1) (.int .i64 4) (.int .i64 0) (.int .i64 0) (.slice none 0 0) (.slice none 0 0) (.slice none 0 0) (.slice none 0 0))):=by
   rw[HD.out];exact HH.out.said (BX.out.trans (hb2.mono BX.out.size)) (by omega) 4 0 _ _ _ _ _ _ _
  obtain⟨q0,q1,q2,q3,q4,q5,q6,fq⟩:=QX.out.later hq;simp only[a0s]
  go_wp2_with fail
  exact bodyPost_ret (v:=a0s 4 0 0 (.slice none 0 0) (.slice none 0 0) (.slice none 0 0) (.slice none 0 0)) (by simp[results,Tryz.results91,go_sem,a0s,q0,q1,q2,q3,q4,q5,q6]) rfl ⟨_,rfl,HF.out⟩
 |none =>
  rw[ht] at hlook;have hlook':(Instr.lookup 137 (.map (some m)) (.string name) false).run Tryz.prog X.drew=.ok (.pointer none) X.drew:=hlook;have hun:=b2C HH.out.of ht;have b1:X.drew.cell? ⟨d,2,none⟩=some (.map (some m)):=a1;have z0:X.drew.cell? ⟨w.heap.size,0,none⟩=some (.string name):=x0;have z1:X.drew.cell? ⟨w.heap.size,1,none⟩=some (.int .i64 u):=x1
  by_cases h4:r.tg.length=4
  ·rw[h4] at hlen
   have HD:Hid (Desk.a0g s (.a0k name u)=(s,Desk.Rep.error 5)):=by
    simp only[Hid,Desk.a0g];rw[if_neg (by omega),if_pos (by rw[<- HH.out.of.len];exact h4)]
   clear hlook a3 a4 ht hx HX
   go_big_region
   clear hlook' x0 x1 a1;generalize X.drew=Y at *
   go_wp2_with fail
   refine (a0D 5 Y).mono ?_;rintro e w2 ⟨rfl,hb2⟩;have hq:=hb2.block (w.heap.size+1) (World.block_lt_of_cell? _ _ QX.out.q0)
   have HF:Hid (a0l w d col (Desk.a0g s (.a0k name u)) (a0s 5 0 0 (.slice none 0 0) (.slice none 0 0) (.slice none 0 0) (.slice none 0 0)) (a2w w2 (w.heap.size+1) (.int .i64 5) (.int .i64 0) (.int .i64 0) (.slice none 0 0) (.slice none 0 0) (.slice none 0 0) (.slice none 0 0))):=by
    rw[HD.out];exact HH.out.said (BX.out.trans (hb2.mono BX.out.size)) (by omega) 5 0 _ _ _ _ _ _ _
   obtain⟨q0,q1,q2,q3,q4,q5,q6,fq⟩:=QX.out.later hq;simp only[a0s]
   go_wp2_with fail
   exact bodyPost_ret (v:=a0s 5 0 0 (.slice none 0 0) (.slice none 0 0) (.slice none 0 0) (.slice none 0 0)) (by simp[results,Tryz.results91,go_sem,a0s,q0,q1,q2,q3,q4,q5,q6]) rfl ⟨_,rfl,HF.out⟩
  ·have HD:Hid (Desk.a0g s (.a0k name u)=({ s with ts:=s.ts++[(name,u)] },Desk.Rep.num 0)):=by
    simp only[Hid,Desk.a0g];rw[if_neg (by omega),if_neg (by rw[<- HH.out.of.len];exact h4)]
   have HT:=a0b ht;have hl4:(r.tg.length:Int)<4:=by omega
   clear hlook a3 a4 ht hx HX
   go_big_region
   clear hlook' x0 x1 a1;generalize X.drew=Y at *
   go_wp2_with fail
   refine (b3Q name Y (by omega)).mono ?_;rintro e w1 ⟨rfl,hb⟩;have hNY:w.heap.size+1<Y.heap.size:=World.block_lt_of_cell? _ _ QX.out.q0;obtain⟨m2,g1,w3,hrun,q7,hf⟩:=HH.out.newT (u:=u) (BX.out.trans (hb.mono BX.out.size)) hn HT.out (by omega) (QX.out.later (hb.block _ hNY));have g2:w1.cell? ⟨w.heap.size,1,none⟩=some (.int .i64 u):=a0a hb z1;have HF:Hid (a0l w d col (Desk.a0g s (.a0k name u)) (a0s 0 0 0 (.slice none 0 0) (.slice none 0 0) (.slice none 0 0) (.slice none 0 0)) (a2w w3 (w.heap.size+1) (.int .i64 0) (.int .i64 0) (.int .i64 0) (.slice none 0 0) (.slice none 0 0) (.slice none 0 0) (.slice none 0 0))):=by rw[HD.out];exact hf _ _ _ _ _ _ _
   have ka:Below w1.heap.size w1 (w1.alloc (.cells #[.string name,.int .i64 u,.pointer none,.pointer none] 243)):=(zr _ _).alloc (zq _) _;have g1a:=a0a ka g1;have g2a:=a0a ka g2;clear hf hb hlen z0 z1 b1 ka
   go_upto_region 6 with fail
   go_big_region
   clear hrun g1 g2 g1a g2a;obtain⟨q0,q1,q2,q3,q4,q5,q6,fq⟩:=q7
   go_wp2_with fail
   exact bodyPost_ret (v:=a0s 0 0 0 (.slice none 0 0) (.slice none 0 0) (.slice none 0 0) (.slice none 0 0)) (by simp[results,Tryz.results91,go_sem,a0s,q0,q1,q2,q3,q4,q5,q6]) rfl ⟨_,rfl,HF.out⟩
theorem b3V(h:DSt w d s r col)(name:ByteArray)(hn:name.size<=1000)(u:Int):
  Calls Tryz.prog 64 #[.pointer (some ⟨d,0,none⟩),.iface 149 (.agg #[.string name,.int .i64 u])] w fun e w'=>∃ v,e=.returned v/\a0l w d col (Desk.a0g s (.a0k name u)) v w':=by
 have hX:Below w.heap.size w ((w.alloc a0f).alloc (.cells #[.string name,.int .i64 u] 149)):=((zr _ _).alloc (zq _) _).alloc (by simp) _;have hq:((w.alloc a0f).alloc (.cells #[.string name,.int .i64 u] 149)).heap[w.heap.size]?=some a0f:=(Below.heap_alloc _ _ _ (by simp)).trans (a0p w a0f);have hs:w.heap.size<((w.alloc a0f).alloc (.cells #[.string name,.int .i64 u] 149)).heap.size:=by simp;omega
 have EF:=a0b (b9j (w:=((w.alloc a0f).alloc (.cells #[.string name,.int .i64 u] 149))) ⟨h.dk.later hX,h.of,h.wl,h.hl,h.inv⟩ name hn u);have HX:=a0b (zA hX (zA (Q7.of hq) (zA (h.dk.none (zq _)) hs)));clear h hX hq hs;unfold a0f at EF HX;have yesThing:∀ (xT:TypeId) (v:Value) (w:World),(Instr.typeAssert (.iface 149 v) xT 149 true).run Tryz.prog w=.ok (.tuple #[v,.bool true]) w:=by intro xT v w;simp[Instr.typeAssert,go_sem,Result.andThen,run_underlying Tryz.underlying149]
 go_enter Tryz.func64,Tryz.ntmps64
 go_wp2_with fail
 refine EF.out.mono ?_;rintro e w2 ⟨v,rfl,ep⟩;obtain⟨er,at_,nn,a1,a2,a3,a4,n1,n2,n3,n4,c1,c2,c3,c4,rfl,q7,hf⟩:=ep.up HX.out.1 (zq _) HX.out.2.2.2 HX.out.2.2.1 HX.out.2.1;have HF:=a0b (hf (.int .i64 er) (.int .i64 at_) (.int .i64 nn) (.slice a1 n1 c1) (.slice a2 n2 c2) (.slice a3 n3 c3) (.slice a4 n4 c4));clear ep hf EF yesThing;obtain⟨q0,q1,q2,q3,q4,q5,q6,fq⟩:=q7;simp only[a0s]
 go_wp2_with fail
 exact bodyPost_ret (v:=a0s er at_ nn (.slice a1 n1 c1) (.slice a2 n2 c2) (.slice a3 n3 c3) (.slice a4 n4 c4)) (by simp[results,Tryz.results64,go_sem,a0s,q0,q1,q2,q3,q4,q5,q6]) rfl ⟨_,rfl,HF.out⟩
theorem b5G(h:DSt w d s r col)(name:ByteArray)(hn:name.size<=1000)(u fr til:Int)(hl:Desk.a1O (.enter 1 name u fr til 0)):
  Calls Tryz.prog 64 #[.pointer (some ⟨d,0,none⟩),.iface 154 (.agg #[.string name,.int .i64 u,.int .i64 fr,.int .i64 til])] w fun e w'=>∃ v,e=.returned v/\a0l w d col (Desk.a0g s (.enter 1 name u fr til 0)) v w':=by
 have hX:Below w.heap.size w ((w.alloc a0f).alloc (.cells #[.string name,.int .i64 u,.int .i64 fr,.int .i64 til] 154)):=((zr _ _).alloc (zq _) _).alloc (by simp) _;have hq:((w.alloc a0f).alloc (.cells #[.string name,.int .i64 u,.int .i64 fr,.int .i64 til] 154)).heap[w.heap.size]?=some a0f:=(Below.heap_alloc _ _ _ (by simp)).trans (a0p w a0f);have hs:w.heap.size<((w.alloc a0f).alloc (.cells #[.string name,.int .i64 u,.int .i64 fr,.int .i64 til] 154)).heap.size:=by simp;omega
 have EF:=a0b (c3F (w:=((w.alloc a0f).alloc (.cells #[.string name,.int .i64 u,.int .i64 fr,.int .i64 til] 154))) ⟨h.dk.later hX,h.of,h.wl,h.hl,h.inv⟩ name hn u fr til hl);have HX:=a0b (zA hX (zA (Q7.of hq) (zA (h.dk.none (zq _)) hs)));clear h hX hq hs;unfold a0f at EF HX;have noThing:=d0q 154 (by decide);have yesBook:∀ (xT:TypeId) (v:Value) (w:World),(Instr.typeAssert (.iface 154 v) xT 154 true).run Tryz.prog w=.ok (.tuple #[v,.bool true]) w:=by intro xT v w;simp[Instr.typeAssert,go_sem,Result.andThen,run_underlying Tryz.underlying154]
 go_enter Tryz.func64,Tryz.ntmps64
 go_wp2_with fail
 refine EF.out.mono ?_;rintro e w2 ⟨v,rfl,ep⟩;obtain⟨er,at_,nn,a1,a2,a3,a4,n1,n2,n3,n4,c1,c2,c3,c4,rfl,q7,hf⟩:=ep.up HX.out.1 (zq _) HX.out.2.2.2 HX.out.2.2.1 HX.out.2.1;have HF:=a0b (hf (.int .i64 er) (.int .i64 at_) (.int .i64 nn) (.slice a1 n1 c1) (.slice a2 n2 c2) (.slice a3 n3 c3) (.slice a4 n4 c4));clear ep hf EF noThing yesBook;obtain⟨q0,q1,q2,q3,q4,q5,q6,fq⟩:=q7;simp only[a0s]
 go_wp2_with fail
 exact bodyPost_ret (v:=a0s er at_ nn (.slice a1 n1 c1) (.slice a2 n2 c2) (.slice a3 n3 c3) (.slice a4 n4 c4)) (by simp[results,Tryz.results64,go_sem,a0s,q0,q1,q2,q3,q4,q5,q6]) rfl ⟨_,rfl,HF.out⟩
theorem b2n(h:DSt w d s r col)(id:Int)(hid:0<=id/\id<=9999999):
  Calls Tryz.prog 64 #[.pointer (some ⟨d,0,none⟩),.iface 168 (.agg #[.int .i64 id])] w fun e w'=>∃ v,e=.returned v/\a0l w d col (Desk.a0g s (.cancel id)) v w':=by
 have hX:Below w.heap.size w ((w.alloc a0f).alloc (.cells #[.int .i64 id] 168)):=((zr _ _).alloc (zq _) _).alloc (by simp) _;have hq:((w.alloc a0f).alloc (.cells #[.int .i64 id] 168)).heap[w.heap.size]?=some a0f:=(Below.heap_alloc _ _ _ (by simp)).trans (a0p w a0f);have hs:w.heap.size<((w.alloc a0f).alloc (.cells #[.int .i64 id] 168)).heap.size:=by simp;omega
 have EF:=a0b (b8L (w:=((w.alloc a0f).alloc (.cells #[.int .i64 id] 168))) ⟨h.dk.later hX,h.of,h.wl,h.hl,h.inv⟩ id hid);have HX:=a0b (zA hX (zA (Q7.of hq) (zA (h.dk.none (zq _)) hs)));clear h hX hq hs;unfold a0f at EF HX;have noThing:=d0q 168 (by decide);have noBook:=d2o 168 (by decide);have noHold:=d2F 168 (by decide);have noWait:=d3H 168 (by decide);have noSeries:=d0K 168 (by decide);have noConfirm:=d0y 168 (by decide);have yesCancel:∀ (xT:TypeId) (v:Value) (w:World),(Instr.typeAssert (.iface 168 v) xT 168 true).run Tryz.prog w=.ok (.tuple #[v,.bool true]) w:=by intro xT v w;simp[Instr.typeAssert,go_sem,Result.andThen,run_underlying Tryz.underlying168]
 go_enter Tryz.func64,Tryz.ntmps64
 go_wp2_with fail
 refine EF.out.mono ?_;rintro e w2 ⟨v,rfl,ep⟩;obtain⟨er,at_,nn,a1,a2,a3,a4,n1,n2,n3,n4,c1,c2,c3,c4,rfl,q7,hf⟩:=ep.up HX.out.1 (zq _) HX.out.2.2.2 HX.out.2.2.1 HX.out.2.1;have HF:=a0b (hf (.int .i64 er) (.int .i64 at_) (.int .i64 nn) (.slice a1 n1 c1) (.slice a2 n2 c2) (.slice a3 n3 c3) (.slice a4 n4 c4));clear ep hf EF noThing noBook noHold noWait noSeries noConfirm yesCancel;obtain⟨q0,q1,q2,q3,q4,q5,q6,fq⟩:=q7;simp only[a0s]
 go_wp2_with fail
 exact bodyPost_ret (v:=a0s er at_ nn (.slice a1 n1 c1) (.slice a2 n2 c2) (.slice a3 n3 c3) (.slice a4 n4 c4)) (by simp[results,Tryz.results64,go_sem,a0s,q0,q1,q2,q3,q4,q5,q6]) rfl ⟨_,rfl,HF.out⟩
theorem b5C(h:DSt w d s r col)(name:ByteArray)(hn:name.size<=1000)(fr til:Int)(hl:Desk.a1O (.peak name fr til)):
  Calls Tryz.prog 64 #[.pointer (some ⟨d,0,none⟩),.iface 176 (.agg #[.string name,.int .i64 fr,.int .i64 til])] w fun e w'=>∃ v,e=.returned v/\a0l w d col (Desk.a0g s (.peak name fr til)) v w':=by
 have hX:Below w.heap.size w ((w.alloc a0f).alloc (.cells #[.string name,.int .i64 fr,.int .i64 til] 176)):=((zr _ _).alloc (zq _) _).alloc (by simp) _;have hq:((w.alloc a0f).alloc (.cells #[.string name,.int .i64 fr,.int .i64 til] 176)).heap[w.heap.size]?=some a0f:=(Below.heap_alloc _ _ _ (by simp)).trans (a0p w a0f);have hs:w.heap.size<((w.alloc a0f).alloc (.cells #[.string name,.int .i64 fr,.int .i64 til] 176)).heap.size:=by simp;omega
 have EF:=a0b (c2D (w:=((w.alloc a0f).alloc (.cells #[.string name,.int .i64 fr,.int .i64 til] 176))) ⟨h.dk.later hX,h.of,h.wl,h.hl,h.inv⟩ name hn fr til hl);have HX:=a0b (zA hX (zA (Q7.of hq) (zA (h.dk.none (zq _)) hs)));clear h hX hq hs;unfold a0f at EF HX;have noThing:=d0q 176 (by decide);have noBook:=d2o 176 (by decide);have noHold:=d2F 176 (by decide);have noWait:=d3H 176 (by decide);have noSeries:=d0K 176 (by decide);have noConfirm:=d0y 176 (by decide);have noCancel:=d1Q 176 (by decide);have noList:=d8g 176 (by decide);have noWaiting:=d2E 176 (by decide);have yesPeak:∀ (xT:TypeId) (v:Value) (w:World),(Instr.typeAssert (.iface 176 v) xT 176 true).run Tryz.prog w=.ok (.tuple #[v,.bool true]) w:=by intro xT v w;simp[Instr.typeAssert,go_sem,Result.andThen,run_underlying Tryz.underlying176]
 go_enter Tryz.func64,Tryz.ntmps64
 go_wp2_with fail
 refine EF.out.mono ?_;rintro e w2 ⟨v,rfl,ep⟩;obtain⟨er,at_,nn,a1,a2,a3,a4,n1,n2,n3,n4,c1,c2,c3,c4,rfl,q7,hf⟩:=ep.up HX.out.1 (zq _) HX.out.2.2.2 HX.out.2.2.1 HX.out.2.1;have HF:=a0b (hf (.int .i64 er) (.int .i64 at_) (.int .i64 nn) (.slice a1 n1 c1) (.slice a2 n2 c2) (.slice a3 n3 c3) (.slice a4 n4 c4));clear ep hf EF noThing noBook noHold noWait noSeries noConfirm noCancel noList noWaiting yesPeak;obtain⟨q0,q1,q2,q3,q4,q5,q6,fq⟩:=q7;simp only[a0s]
 go_wp2_with fail
 exact bodyPost_ret (v:=a0s er at_ nn (.slice a1 n1 c1) (.slice a2 n2 c2) (.slice a3 n3 c3) (.slice a4 n4 c4)) (by simp[results,Tryz.results64,go_sem,a0s,q0,q1,q2,q3,q4,q5,q6]) rfl ⟨_,rfl,HF.out⟩
theorem b5F(h:DSt w d s r col)(name:ByteArray)(hn:name.size<=1000)(u long fr til:Int)(hl:Desk.a1O (.find name u long fr til)):
  Calls Tryz.prog 64 #[.pointer (some ⟨d,0,none⟩),.iface 178 (.agg #[.string name,.int .i64 u,.int .i64 long,.int .i64 fr,.int .i64 til])] w fun e w'=>∃ v,e=.returned v/\a0l w d col (Desk.a0g s (.find name u long fr til)) v w':=by
 have hX:Below w.heap.size w ((w.alloc a0f).alloc (.cells #[.string name,.int .i64 u,.int .i64 long,.int .i64 fr,.int .i64 til] 178)):=((zr _ _).alloc (zq _) _).alloc (by simp) _;have hq:((w.alloc a0f).alloc (.cells #[.string name,.int .i64 u,.int .i64 long,.int .i64 fr,.int .i64 til] 178)).heap[w.heap.size]?=some a0f:=(Below.heap_alloc _ _ _ (by simp)).trans (a0p w a0f);have hs:w.heap.size<((w.alloc a0f).alloc (.cells #[.string name,.int .i64 u,.int .i64 long,.int .i64 fr,.int .i64 til] 178)).heap.size:=by simp;omega
 have EF:=a0b (c3j (w:=((w.alloc a0f).alloc (.cells #[.string name,.int .i64 u,.int .i64 long,.int .i64 fr,.int .i64 til] 178))) ⟨h.dk.later hX,h.of,h.wl,h.hl,h.inv⟩ name hn u long fr til hl);have HX:=a0b (zA hX (zA (Q7.of hq) (zA (h.dk.none (zq _)) hs)));clear h hX hq hs;unfold a0f at EF HX;have noThing:=d0q 178 (by decide);have noBook:=d2o 178 (by decide);have noHold:=d2F 178 (by decide);have noWait:=d3H 178 (by decide);have noSeries:=d0K 178 (by decide);have noConfirm:=d0y 178 (by decide);have noCancel:=d1Q 178 (by decide);have noList:=d8g 178 (by decide);have noWaiting:=d2E 178 (by decide);have noPeak:=e3J 178 (by decide);have yesFind:∀ (xT:TypeId) (v:Value) (w:World),(Instr.typeAssert (.iface 178 v) xT 178 true).run Tryz.prog w=.ok (.tuple #[v,.bool true]) w:=by intro xT v w;simp[Instr.typeAssert,go_sem,Result.andThen,run_underlying Tryz.underlying178]
 go_enter Tryz.func64,Tryz.ntmps64
 go_wp2_with fail
 refine EF.out.mono ?_;rintro e w2 ⟨v,rfl,ep⟩;obtain⟨er,at_,nn,a1,a2,a3,a4,n1,n2,n3,n4,c1,c2,c3,c4,rfl,q7,hf⟩:=ep.up HX.out.1 (zq _) HX.out.2.2.2 HX.out.2.2.1 HX.out.2.1;have HF:=a0b (hf (.int .i64 er) (.int .i64 at_) (.int .i64 nn) (.slice a1 n1 c1) (.slice a2 n2 c2) (.slice a3 n3 c3) (.slice a4 n4 c4));clear ep hf EF noThing noBook noHold noWait noSeries noConfirm noCancel noList noWaiting noPeak yesFind;obtain⟨q0,q1,q2,q3,q4,q5,q6,fq⟩:=q7;simp only[a0s]
 go_wp2_with fail
 exact bodyPost_ret (v:=a0s er at_ nn (.slice a1 n1 c1) (.slice a2 n2 c2) (.slice a3 n3 c3) (.slice a4 n4 c4)) (by simp[results,Tryz.results64,go_sem,a0s,q0,q1,q2,q3,q4,q5,q6]) rfl ⟨_,rfl,HF.out⟩
open Go.RowKit Go.Shelf
attribute [local go_sem] Oper.semAt_some
attribute [local go_sem] Oper.semAt_some
attribute [local go_sem] Oper.semAt_some
attribute [local go_sem] Oper.semAt_some
theorem a6Z{W W':World}{row:Option Nat}{t:TypeId}(h:Boxed W B t v)(hg:W.grownBy W' row)(hr:∀ r,row=some r->∃ o:Obj,W.heap[r]?=some o/\o.isCells=false):Boxed W' B t v :=
 h.kept hg (fun e=>by
  obtain⟨o,ho,hc⟩:=hr B e.symm
  rw[show W.heap[B]?=_ from h] at ho;cases ho;cases hc)
theorem c4d:∀ (L:List (Int × Int))(j:Nat)(u:Value),(L.flatMap spV)[j]?=some u->∃ (i:Nat)(h:i<L.length),(j=i*2/\u=.int .i64 L[i].1)\/(j=i*2+1/\u=.int .i64 L[i].2)
 |[],j,u,h=>by simp at h
 |p :: L,0,u,h=>by
  refine⟨0,by simp,.inl ⟨rfl,?_⟩⟩;simp[spV] at h;exact h.symm
 |p :: L,1,u,h=>by
  refine⟨0,by simp,.inr ⟨rfl,?_⟩⟩;simp[spV] at h;exact h.symm
 |p :: L,j+2,u,h=>by
  have h':(L.flatMap spV)[j]?=some u:=by simpa[spV] using h
  obtain⟨i,hi,e⟩:=c4d L j u h';refine⟨i+1,by simp;omega,?_⟩;rcases e with ⟨e1,e2⟩|⟨e1,e2⟩
  ·exact .inl ⟨by omega,by simpa using e2⟩
  ·exact .inr ⟨by omega,by simpa using e2⟩
theorem b0S(L:List (Int × Int)):(L.flatMap spV).length=L.length*2:=by
 induction L with
 |nil=>rfl
 |cons p L ih=>simp[spV,ih];omega
theorem b8A(L:List (Int × Int)):∀ u∈L.flatMap spV,u.oneCell'=true:=by
 intro u hu;obtain⟨p,_,hp⟩:=List.mem_flatMap.1 hu;simp[spV] at hp;rcases hp with rfl|rfl <;> rfl
theorem b4C(w:World)(B cap:Nat)(L:List (Int × Int))(hs:SL w B L)(hL:L.length<=100):
  Calls Tryz.prog 210 #[.slice (some ⟨B,0,none⟩) L.length cap] w fun e w'=>∃ v,e=.returned v/\w'.ownsRow w.heap.size 60 2 v L.length (L.flatMap spV)/\Below w.heap.size w w':=by
 obtain⟨i0,hi0,hz0,hz1,hz2⟩:=info_parts b6Q;have q22:∀ (w:World) (a:Option Addr) (n c n' c':Nat),(binOp .eql 56 (.slice a n c) (.slice none n' c')).run Tryz.prog w=.ok (.bool a.isNone) w:=fun w a n c n' c'=>Lib.run_eql_slice_nil w _ _ a n c n' c' Tryz.underlying56
 have HS:=a0b hs;clear hs
 go_enter Tryz.func210,Tryz.ntmps210
 go_wp2_with (at_builtin;refine wpList_append_own _ rfl _ _ 56 rfl w.heap.size 60 i0 _ 2 16 Tryz.underlying56 hi0 hz0 hz1 hz2 rfl (by decide) _ _ _ rfl (World.ownsRow_made w #[] 0 (zq _) (zN _) rfl) ⟨B,0,none⟩ L.length cap (L.flatMap spV) rfl ?qc1 ?qc2 ?qc3 ?qc4 ?qc5 ?qc6 ?_)
 case qc1=>exact b0S L
 case qc2 =>
  intro j u hj;rw[Addr.add_lit];refine Lib.cell?_alloc_some _ ?_;obtain⟨i,hi,⟨rfl,rfl⟩|⟨rfl,rfl⟩⟩:=c4d L j u hj
  ·have:=(HS.out i hi).1
   simpa using this
  ·have:=(HS.out i hi).2
   simpa using this
 case qc3=>exact b8A L
 case qc4=>unfold maxLen;omega
 case qc5=>omega
 case qc6=>simp
 intro v' w1 hown hgrow hnil;go_wp2;go_ret;refine⟨v',rfl,by simpa using hown,?_⟩;exact ((zr _ w).alloc (zq _) _).grown hgrow (by simp) (by intro k hk;simp[Value.ownBlock] at hk;omega)
def a3U:Obj:=.cells #[.int .i64 0,.int .i64 0,.string ByteArray.empty,.int .i64 0,.slice none 0 0,.int .i64 0] 58 (0,0)
def a8k(e:Ent)(v:Value):Value:=.agg #[.int .i64 e.id,.int .i64 e.kind,.string e.a0k,.int .i64 e.a0c,v,.int .i64 e.a0Z]
def c5K(Z:World)(Q:Nat)(a b c d e f:Value):World:=(((((Z.setCell ⟨Q,0,none⟩ a).setCell ⟨Q,1,none⟩ b).setCell ⟨Q,2,none⟩ c).setCell ⟨Q,3,none⟩ d).setCell ⟨Q,4,none⟩ e).setCell ⟨Q,5,none⟩ f
theorem b6a(Z:World)(Q:Nat)(a b c d e f:Value):Off [Q] Z (c5K Z Q a b c d e f) :=
 ((((((Off.refl [Q] Z).setCell (.inl (by simp)) _ _).setCell (.inl (by simp)) _ _).setCell (.inl (by simp)) _ _).setCell (.inl (by simp)) _ _).setCell (.inl (by simp)) _ _).setCell (.inl (by simp)) _ _
def b2p(w:World)(e:Ent)(v:Value)(w':World):Prop:=∃ sp,v=a8k e sp/\w'.ownsRow w.heap.size 60 2 sp e.a0e.length (e.a0e.flatMap spV)/\Below w.heap.size w w'
theorem c7v(h:w.heap[Q]?=some a3U):w.cell? ⟨Q,0,none⟩=some (.int .i64 0):=by unfold a3U at h;simp only[World.cell?,h];rfl
theorem c7u(h:w.heap[Q]?=some a3U):w.cell? ⟨Q,1,none⟩=some (.int .i64 0):=by unfold a3U at h;simp only[World.cell?,h];rfl
theorem c7t(h:w.heap[Q]?=some a3U):w.cell? ⟨Q,2,none⟩=some (.string ByteArray.empty):=by unfold a3U at h;simp only[World.cell?,h];rfl
theorem c7s(h:w.heap[Q]?=some a3U):w.cell? ⟨Q,3,none⟩=some (.int .i64 0):=by unfold a3U at h;simp only[World.cell?,h];rfl
theorem c7r(h:w.heap[Q]?=some a3U):w.cell? ⟨Q,4,none⟩=some (.slice none 0 0):=by unfold a3U at h;simp only[World.cell?,h];rfl
theorem c7q(h:w.heap[Q]?=some a3U):w.cell? ⟨Q,5,none⟩=some (.int .i64 0):=by unfold a3U at h;simp only[World.cell?,h];rfl
theorem c7p(h:w.heap[Q]?=some a3U):∀ o,w.frozen? ⟨Q,o,none⟩=false:=fun o=>frozen_of_row _ Q o _ _ h
theorem c2d(w:World)(g:EG)(h:ENK w g)(hn:w.cell? ⟨g.tb,0,none⟩=some (.string g.e.a0k))(hL:g.e.a0e.length<=100):
  Calls Tryz.prog 152 #[.pointer (some ⟨g.eb,0,none⟩)] w fun e w'=>∃ v,e=.returned v/\b2p w g.e v w':=by
 have hX:Below w.heap.size w (w.alloc a3U):=(zr _ _).alloc (zq _) _;have hq:=a0p w a3U;have hx:=h.off (G:=[]) (Off.of_below hX) (by simp) (by simp);have c0:=hx.en.c0;have c1:=hx.k;have c2:=hx.en.c1;have c3:=hx.en.c2;have c4:=hx.en.c3;have c5:=hx.u;have cn:=a0a hX hn;have CL:=a0b (b4C (w.alloc a3U).drew g.B g.cap g.e.a0e (hx.en.sl.off (G:=[]) (Off.of_below (a0q _)) (by simp)) hL);have HX:=a0b (zA hX hq);have hne:g.eb≠w.heap.size/\g.tb≠w.heap.size:=⟨by have:=h.lt;omega,by have h1:g.tb<w.heap.size:=World.block_lt_of_cell? _ _ hn;omega⟩;clear h hn hX hq hx
 go_enter Tryz.func152,Tryz.ntmps152
 go_upto_region 1 with fail
 change Code.wp _ _ _ _ (w.alloc a3U);have hs:w.heap.size<(w.alloc a3U).heap.size:=by simp
 generalize w.alloc a3U=X at *;have AC:Hid (∀ w2,Below X.drew.heap.size X.drew w2->w2.cell? ⟨g.eb,0,none⟩=some (.int .i64 g.e.id)/\w2.cell? ⟨g.eb,1,none⟩=some (.int .i64 g.e.kind)/\w2.cell? ⟨g.eb,2,none⟩=some (.pointer (some ⟨g.tb,0,none⟩))/\w2.cell? ⟨g.eb,3,none⟩=some (.int .i64 g.e.a0c)/\w2.cell? ⟨g.eb,4,none⟩=some (.slice (some ⟨g.B,0,none⟩) g.e.a0e.length g.cap)/\w2.cell? ⟨g.eb,5,none⟩=some (.int .i64 g.e.a0Z)/\w2.cell? ⟨g.tb,0,none⟩=some (.string g.e.a0k)):=fun w2 k=>⟨a0a k c0,a0a k c1,a0a k c2,a0a k c3,a0a k c4,a0a k c5,a0a k cn⟩
 have AQ:Hid (∀ w2,Below X.drew.heap.size X.drew w2->w2.heap[w.heap.size]?=some a3U):=fun w2 k=>(k.block _ hs).trans HX.out.2
 have AS:Hid (∀ w2 a b c d e f,Below X.drew.heap.size X.drew w2->((((((w2.setCell ⟨w.heap.size,0,none⟩ a).setCell ⟨w.heap.size,1,none⟩ b).setCell ⟨w.heap.size,2,none⟩ c).setCell ⟨w.heap.size,3,none⟩ d).setCell ⟨w.heap.size,4,none⟩ e).setCell ⟨w.heap.size,5,none⟩ f).cell? ⟨g.eb,0,none⟩=some (.int .i64 g.e.id)/\((((((w2.setCell ⟨w.heap.size,0,none⟩ a).setCell ⟨w.heap.size,1,none⟩ b).setCell ⟨w.heap.size,2,none⟩ c).setCell ⟨w.heap.size,3,none⟩ d).setCell ⟨w.heap.size,4,none⟩ e).setCell ⟨w.heap.size,5,none⟩ f).cell? ⟨g.eb,1,none⟩=some (.int .i64 g.e.kind)/\((((((w2.setCell ⟨w.heap.size,0,none⟩ a).setCell ⟨w.heap.size,1,none⟩ b).setCell ⟨w.heap.size,2,none⟩ c).setCell ⟨w.heap.size,3,none⟩ d).setCell ⟨w.heap.size,4,none⟩ e).setCell ⟨w.heap.size,5,none⟩ f).cell? ⟨g.eb,2,none⟩=some (.pointer (some ⟨g.tb,0,none⟩))/\((((((w2.setCell ⟨w.heap.size,0,none⟩ a).setCell ⟨w.heap.size,1,none⟩ b).setCell ⟨w.heap.size,2,none⟩ c).setCell ⟨w.heap.size,3,none⟩ d).setCell ⟨w.heap.size,4,none⟩ e).setCell ⟨w.heap.size,5,none⟩ f).cell? ⟨g.eb,3,none⟩=some (.int .i64 g.e.a0c)/\((((((w2.setCell ⟨w.heap.size,0,none⟩ a).setCell ⟨w.heap.size,1,none⟩ b).setCell ⟨w.heap.size,2,none⟩ c).setCell ⟨w.heap.size,3,none⟩ d).setCell ⟨w.heap.size,4,none⟩ e).setCell ⟨w.heap.size,5,none⟩ f).cell? ⟨g.eb,4,none⟩=some (.slice (some ⟨g.B,0,none⟩) g.e.a0e.length g.cap)/\((((((w2.setCell ⟨w.heap.size,0,none⟩ a).setCell ⟨w.heap.size,1,none⟩ b).setCell ⟨w.heap.size,2,none⟩ c).setCell ⟨w.heap.size,3,none⟩ d).setCell ⟨w.heap.size,4,none⟩ e).setCell ⟨w.heap.size,5,none⟩ f).cell? ⟨g.eb,5,none⟩=some (.int .i64 g.e.a0Z)/\((((((w2.setCell ⟨w.heap.size,0,none⟩ a).setCell ⟨w.heap.size,1,none⟩ b).setCell ⟨w.heap.size,2,none⟩ c).setCell ⟨w.heap.size,3,none⟩ d).setCell ⟨w.heap.size,4,none⟩ e).setCell ⟨w.heap.size,5,none⟩ f).cell? ⟨g.tb,0,none⟩=some (.string g.e.a0k)):=fun w2 a b c d e f k=>by
  have o:=b6a w2 w.heap.size a b c d e f;obtain⟨k0,k1,k2,k3,k4,k5,k6⟩:=AC.out w2 k;exact⟨o.cell (by simpa using hne.1) k0,o.cell (by simpa using hne.1) k1,o.cell (by simpa using hne.1) k2,o.cell (by simpa using hne.1) k3,o.cell (by simpa using hne.1) k4,o.cell (by simpa using hne.1) k5,o.cell (by simpa using hne.2) k6⟩
 clear hne
 go_region_held3 (fun w'=>w'.cell? ⟨g.eb,0,none⟩=some (.int .i64 g.e.id)/\w'.cell? ⟨g.eb,1,none⟩=some (.int .i64 g.e.kind)/\w'.cell? ⟨g.eb,2,none⟩=some (.pointer (some ⟨g.tb,0,none⟩))/\w'.cell? ⟨g.eb,3,none⟩=some (.int .i64 g.e.a0c)/\w'.cell? ⟨g.eb,4,none⟩=some (.slice (some ⟨g.B,0,none⟩) g.e.a0e.length g.cap)/\w'.cell? ⟨g.eb,5,none⟩=some (.int .i64 g.e.a0Z)/\w'.cell? ⟨g.tb,0,none⟩=some (.string g.e.a0k))
  (first
   |with_reducible exact AS.out _ _ _ _ _ _ _ hb2
   |with_reducible exact AC.out _ hb2
   |exact⟨c0,c1,c2,c3,c4,c5,cn⟩)
  (first
   |(go_at_call 210;refine CL.out.mono ?_;rintro e w2 ⟨v,rfl,ho,hb2⟩;obtain⟨va,vc,rfl⟩:=a0B ho;have hq2:=AQ.out w2 hb2;have q0:=c7v hq2;have q1:=c7u hq2;have q2:=c7t hq2;have q3:=c7s hq2;have q4:=c7r hq2;have q5:=c7q hq2;have fq:=c7p hq2;clear hq2))
 have HF:Hid (b2p w g.e (a8k g.e (.slice va g.e.a0e.length vc)) (c5K w2 w.heap.size (.int .i64 g.e.id) (.int .i64 g.e.kind) (.string g.e.a0k) (.int .i64 g.e.a0c) (.slice va g.e.a0e.length vc) (.int .i64 g.e.a0Z))):=by
  have hXs:=HX.out.1.size;have k:=b6a w2 w.heap.size (.int .i64 g.e.id) (.int .i64 g.e.kind) (.string g.e.a0k) (.int .i64 g.e.a0c) (.slice va g.e.a0e.length vc) (.int .i64 g.e.a0Z);have h1:Below w.heap.size w w2:=HX.out.1.drew.trans (hb2.mono hXs);refine⟨_,rfl,a1i (Joins.ownsRow_le ho hXs) k (fun b hb hx=>?_),?_⟩
  ·have:=(ho.lt b hb).1;have e:b=w.heap.size:=List.mem_singleton.1 hx;have hs':w.heap.size<X.drew.heap.size:=hs;omega
  ·exact⟨k.os.trans h1.os,k.tape.trans h1.tape,k.output.trans h1.output,Nat.le_trans h1.size k.size,fun b hb=>(k.block b (zL hb h1.size) (by simp;omega)).trans (h1.block b hb)⟩
 clear ho hb2 CL AC AQ AS c0 c1 c2 c3 c4 c5 cn HX hs
 go_wp2_with fail
 exact bodyPost_ret (v:=a8k g.e (.slice va g.e.a0e.length vc)) (by simp[results,Tryz.results152,go_sem,a8k,q0,q1,q2,q3,q4,q5]) rfl ⟨_,rfl,HF.out⟩
theorem b6R:(Tryz.prog.info? 58).map (fun i=>(i.zero,i.size,i.bytes))=some (some (.agg #[.int .i64 0,.int .i64 0,.string ByteArray.empty,.int .i64 0,.slice none 0 0,.int .i64 0]),6,72):=by kernel_rfl
theorem DSt.tells(h:DSt w d s r col)(k:Below w.heap.size w wx){g:EG}(hg:g∈r.eg):
  Calls Tryz.prog 152 #[.pointer (some ⟨g.eb,0,none⟩)] wx fun e w'=>∃ v,e=.returned v/\b2p wx g.e v w':=by
 have d1:=h.dk.later k;obtain⟨i,hi,e1,e2⟩:=h.of.tb g hg;obtain⟨ul,us,Fl,Fs,t1,_⟩:=d1.th i hi;have hc:=t1.c0;rw[e1,<- e2] at hc;exact c2d wx g (d1.en g hg).1 hc (by have:=(h.inv.en _ (h.of.mem hg)).sl;omega)
theorem a3M:∀ {l:List (Ent × Value)}{k:Nat}(hk:k<l.length){j:Nat}(_:j<6),(l.flatMap a1f)[k*6+j]?=(a1f l[k])[j]?
 |p :: l,0,hk,j,hj=>by
  have e:(p :: l).flatMap a1f=a1f p++l.flatMap a1f:=by simp
  rw[e,List.getElem?_append_left (by simp[a1f];omega)];simp
 |p :: l,k+1,hk,j,hj=>by
  have hk':k<l.length:=by simpa using hk
  have e:(p :: l).flatMap a1f=a1f p++l.flatMap a1f:=by simp
  have hl:(a1f p).length=6:=rfl;rw[e,List.getElem?_append_right (by rw[hl];omega),hl,show (k+1)*6+j-6=k*6+j by omega,a3M hk' hj];simp
theorem b8q(eb:Nat)(id:Int)(x:Ent)(a:Option Addr)(n c:Nat)(w:World)(hc:w.cell? ⟨eb,0,none⟩=some (.int .i64 id)):
  Calls Tryz.prog 209 #[.pointer (some ⟨eb,0,none⟩),a8k x (.slice a n c)] w fun e w'=>e=.returned (.bool (x.id==id))/\Below w.heap.size w w':=by
 have hX:Below w.heap.size w (w.alloc (.cells #[.int .i64 x.id,.int .i64 x.kind,.string x.a0k,.int .i64 x.a0c,.slice a n c,.int .i64 x.a0Z] 58)):=(zr _ _).alloc (zq _) _;have x0:(w.alloc (.cells #[.int .i64 x.id,.int .i64 x.kind,.string x.a0k,.int .i64 x.a0c,.slice a n c,.int .i64 x.a0Z] 58)).cell? ⟨w.heap.size,0,none⟩=some (.int .i64 x.id):=by simp
 have x1:=a0a hX hc;have HX:=a0b hX;clear hX hc;unfold a8k
 go_enter Tryz.func209,Tryz.ntmps209
 go_upto_region 1 with fail
 generalize w.alloc (.cells #[.int .i64 x.id,.int .i64 x.kind,.string x.a0k,.int .i64 x.a0c,.slice a n c,.int .i64 x.a0Z] 58)=X at *
 go_big_region
 go_wp2_with fail
 go_ret;exact⟨rfl,HX.out.drew⟩
theorem b1T(l:List (Ent × Value))(v:Value)(B eb:Nat)(id:Int)(w:World)(own:w.ownsRow B 58 6 v l.length (l.flatMap a1f))(hs:∀ p∈l,∃ a n c,p.2=.slice a n c)(hc:w.cell? ⟨eb,0,none⟩=some (.int .i64 id))(hl:l.length<=1000):
  Calls Tryz.prog 256 #[v,.func (.func 209) #[.pointer (some ⟨eb,0,none⟩)] #[]] w fun e w'=>e=.returned (.int .i64 (a3z (fun p:Ent × Value=>p.1.id==id) l 0))/\Below w.heap.size w w':=by
 obtain⟨a,cap,rfl⟩:=a0B own;have CC:=a0b hc;have HS:=a0b hs;have OWN:=a0b own;clear hc hs own
 go_enter Tryz.func256,Tryz.ntmps256
 go_wp2_with fail
 go_loopw [8] (fun i wx=>∃ k:Nat,k<=l.length/\i=.int .i64 k/\a3z (fun p:Ent × Value=>p.1.id==id) l 0=a3z (fun p:Ent × Value=>p.1.id==id) (l.drop k) k/\Below w.heap.size w wx) (fun i _=>l.length-(intOf i).toNat)
 case atStart=>exact⟨0,Nat.zero_le _,rfl,rfl,Below.refl _ _⟩
 case round =>
  obtain⟨k,hk,rfl,hu,hb⟩:=hrel;have HU:=a0b hu;have HB:=a0b hb
  by_cases hlt:k<l.length
  ·have hi:(k:Int)<(l.length:Int):=by omega
   obtain⟨H,cap',e1⟩:=Joins.ownsRow_form OWN.out (by omega);simp only[Value.slice.injEq,true_and] at e1;obtain⟨rfl,rfl⟩:=e1;have ownr:=a1g OWN.out hb;have a0:=(ownr.cellAt (k*6) (by omega)).trans (a3M hlt (j:=0) (by omega));have a1:=(ownr.cellAt (k*6+1) (by omega)).trans (a3M hlt (j:=1) (by omega));have a2:=(ownr.cellAt (k*6+2) (by omega)).trans (a3M hlt (j:=2) (by omega));have a3:=(ownr.cellAt (k*6+3) (by omega)).trans (a3M hlt (j:=3) (by omega));have a4:=(ownr.cellAt (k*6+4) (by omega)).trans (a3M hlt (j:=4) (by omega));have a5:=(ownr.cellAt (k*6+5) (by omega)).trans (a3M hlt (j:=5) (by omega));simp only[a1f,List.getElem?_cons_zero,List.getElem?_cons_succ] at a0 a1 a2 a3 a4 a5;obtain⟨sa,sn,sc,hsp⟩:=HS.out l[k] (zg hlt);rw[hsp] at a4;have D1:=a0b (b8q eb id l[k].1 sa sn sc wr (a0a hb CC.out));have ed:a3z (fun p:Ent × Value=>p.1.id==id) (l.drop k) k=if l[k].1.id==id then (k:Int) else a3z (fun p:Ent × Value=>p.1.id==id) (l.drop (k+1)) ((k+1:Nat):Int):=by rw[List.drop_eq_getElem_cons hlt];rfl
   have ED:=a0b ed;clear ed ownr hb hu hsp
   cases hq:(l[k].1.id==id)
   ·have HN:Hid (a3z (fun p:Ent × Value=>p.1.id==id) l 0=a3z (fun p:Ent × Value=>p.1.id==id) (l.drop (k+1)) ((k+1:Nat):Int)):=by show _=_;rw[HU.out,ED.out,hq];rfl
    rw[hq] at D1;clear hq;unfold a8k at D1
    go_wp2_with fail
    refine D1.out.mono ?_;rintro e w1 ⟨rfl,k1⟩;have HK:=a0b (a0j HB.out k1 (zq _));clear k1 a0 a1 a2 a3 a4 a5 D1
    go_wp2_with fail
    go_roundw
    case rel=>exact⟨k+1,by omega,by go_num,HN.out,HK.out⟩
    case measure=>simp[intOf];omega
   ·have HN:Hid (a3z (fun p:Ent × Value=>p.1.id==id) l 0=k):=by show _=_;rw[HU.out,ED.out,hq];rfl
    rw[hq] at D1;clear hq;unfold a8k at D1
    go_wp2_with fail
    refine D1.out.mono ?_;rintro e w1 ⟨rfl,k1⟩;have HK:=a0b (a0j HB.out k1 (zq _));clear k1 a0 a1 a2 a3 a4 a5 D1
    go_wp2_with fail
    go_ret;exact⟨a1L HN.out.symm,HK.out⟩
  ·have hke:k=l.length:=by omega
   have hi:¬ ((k:Int)<(l.length:Int)):=by omega
   have HN:Hid (a3z (fun p:Ent × Value=>p.1.id==id) l 0=-1):=by show _=_;rw[HU.out,hke,List.drop_length];rfl
   clear hu hb
   go_wp2_with fail
   go_ret;exact⟨a1L HN.out.symm,HB.out⟩
theorem a8q(l:List (Ent × Value))(v:Value)(B eb:Nat)(id:Int)(w:World)(own:w.ownsRow B 58 6 v l.length (l.flatMap a1f))(hs:∀ p∈l,∃ a n c,p.2=.slice a n c)(hc:w.cell? ⟨eb,0,none⟩=some (.int .i64 id))(hl:l.length<=1000):
  Calls Tryz.prog 208 #[v,.func (.func 209) #[.pointer (some ⟨eb,0,none⟩)] #[]] w fun e w'=>e=.returned (.bool (l.any (fun p:Ent × Value=>p.1.id==id)))/\Below w.heap.size w w':=by
 have HI:=a0b (b1T l v B eb id w own hs hc hl)
 have key:(decide ((0:Int)<=a3z (fun p:Ent × Value=>p.1.id==id) l 0))=l.any (fun p:Ent × Value=>p.1.id==id):=by
  rcases a7F (fun p:Ent × Value=>p.1.id==id) l 0 with ⟨h1,h2⟩|⟨k,h,h1,h2,_⟩
  ·rw[h1];have:l.any (fun p:Ent × Value=>p.1.id==id)=false:=List.any_eq_false.2 (fun x hx=>by rw[h2 x hx];simp);rw[this];rfl
  ·have:l.any (fun p:Ent × Value=>p.1.id==id)=true:=List.any_eq_true.2 ⟨_,List.getElem_mem h,h2⟩;rw[this,h1];exact decide_eq_true (by omega)
 have KEY:=a0b key;clear key own hs hc
 go_enter Tryz.func208,Tryz.ntmps208
 go_wp2_with fail
 refine HI.out.mono ?_;rintro e w1 ⟨rfl,k1⟩;have HK:=a0b k1;clear k1 HI;generalize a3z (fun p:Ent × Value=>p.1.id==id) l 0=z at *
 go_wp2_with fail
 go_ret;exact⟨by rw[KEY.out];rfl,HK.out⟩
theorem b3B{L:List (Int × Int)}:∀ (i:Nat)(h:i<L.length),(L.flatMap spV)[i*2]?=some (.int .i64 L[i].1)/\(L.flatMap spV)[i*2+1]?=some (.int .i64 L[i].2):=by
 induction L with
 |nil=>intro i h;simp at h
 |cons a L ih =>
  intro i h
  cases i with
  |zero=>exact⟨rfl,rfl⟩
  |succ i =>
   obtain⟨h1,h2⟩:=ih i (by simpa using h);have e:(a :: L).flatMap spV=[.int .i64 a.1,.int .i64 a.2]++L.flatMap spV:=rfl;rw[e,show (i+1)*2=2+i*2 from by omega,show 2+i*2+1=2+(i*2+1) from by omega];constructor
   ·rw[List.getElem?_append_right (by simp)];simpa using h1
   ·rw[List.getElem?_append_right (by simp)];simpa using h2
end Go.Proofs.YtfigmlfdnickmaaGreatDoor
