import Derived.Test.YtfigmlfdnickmaaGreatDoorL14
import Derived.RangeFuncKeeps
import Derived.RangeFuncBound
import Derived.RangeFuncLeaves
import Derived.RangeFuncBox
import Derived.Shelf.Abstract
import Derived.OwnWalkIn
import Derived.TacticsInMore
import Derived.LoopNIn
import Derived.LoopIn
import Derived.Deep.CutRange
import Derived.Deep.RegionWith
import Derived.Deep.RegionHeld3
set_option maxRecDepth 100000
set_option maxHeartbeats 8000000
variable{name:ByteArray}{fr long til u:Int}{b d:Nat}{col:Nat->Option Go.Proofs.YtfigmlfdnickmaaGreatDoor.Col}{s:Go.Proofs.YtfigmlfdnickmaaGreatDoor.Desk.St}{w:Go.World}
namespace Go.Proofs.YtfigmlfdnickmaaGreatDoor
open Go.RowKit
open Desk (Ent St Ids kept a0C a0Q a1C a2e ofB a0y a2c Mid a1H a0z Inv)
theorem b2f(h:a1c s name u fr til≠0):Desk.a0g s (.find name u long fr til)=(s,Desk.Rep.error (a1c s name u fr til)):=by
 simp only[Desk.a0g];unfold a1c at *
 by_cases h1:Desk.a0S s.ts name u≠0
 ·rw[if_pos h1,if_pos h1]
 ·rw[if_neg h1] at h ⊢;rw[if_neg h1]
  by_cases h3:til<=fr
  ·rw[if_pos h3,if_pos h3]
  ·rw[if_neg h3] at h;omega
theorem c1b(h:a1c s name u fr til=0):Desk.a0g s (.find name u long fr til)=(s,Desk.Rep.num (Desk.a9A s.ts s.es name u long fr til)):=by
 obtain⟨h1,h2⟩:=a1E h;simp only[Desk.a0g];rw[if_neg (by omega),if_neg (by omega)]
theorem c3j{r:Raw}(h:DSt w d s r col)(name:ByteArray)(hn:name.size<=1000)(u long fr til:Int)(hl:Desk.a1O (.find name u long fr til)):
  Calls Tryz.prog 101 #[.pointer (some ⟨d,0,none⟩),.agg #[.string name,.int .i64 u,.int .i64 long,.int .i64 fr,.int .i64 til]] w fun e w'=>∃ v,e=.returned v/\a0l w d col (Desk.a0g s (.find name u long fr til)) v w':=by
 obtain⟨hX,hXQ⟩:=a2q (w:=w) (.cells #[.string name,.int .i64 u,.int .i64 long,.int .i64 fr,.int .i64 til] 178);have x0:((w.alloc (.cells #[.string name,.int .i64 u,.int .i64 long,.int .i64 fr,.int .i64 til] 178)).alloc a0f).cell? ⟨w.heap.size,0,none⟩=some (.string name):=by simp[a0f]
 have x1:((w.alloc (.cells #[.string name,.int .i64 u,.int .i64 long,.int .i64 fr,.int .i64 til] 178)).alloc a0f).cell? ⟨w.heap.size,1,none⟩=some (.int .i64 u):=by simp[a0f]
 have x2:((w.alloc (.cells #[.string name,.int .i64 u,.int .i64 long,.int .i64 fr,.int .i64 til] 178)).alloc a0f).cell? ⟨w.heap.size,2,none⟩=some (.int .i64 long):=by simp[a0f]
 have x3:((w.alloc (.cells #[.string name,.int .i64 u,.int .i64 long,.int .i64 fr,.int .i64 til] 178)).alloc a0f).cell? ⟨w.heap.size,3,none⟩=some (.int .i64 fr):=by simp[a0f]
 have x4:((w.alloc (.cells #[.string name,.int .i64 u,.int .i64 long,.int .i64 fr,.int .i64 til] 178)).alloc a0f).cell? ⟨w.heap.size,4,none⟩=some (.int .i64 til):=by simp[a0f]
 have hNX:w.heap.size+1<((w.alloc (.cells #[.string name,.int .i64 u,.int .i64 long,.int .i64 fr,.int .i64 til] 178)).alloc a0f).heap.size:=by simp
 have AK:=a0b (a4e (h.dk.later hX) h.of h.mid name hn u fr til);have HH:=a0b h;have HX:=a0b (zA hX hXQ);clear h hX hXQ
 go_enter Tryz.func101,Tryz.ntmps101
 go_upto_region 1 with fail
 change Code.wp _ _ _ _ ((w.alloc (.cells #[.string name,.int .i64 u,.int .i64 long,.int .i64 fr,.int .i64 til] 178)).alloc a0f);generalize (w.alloc (.cells #[.string name,.int .i64 u,.int .i64 long,.int .i64 fr,.int .i64 til] 178)).alloc a0f=X at *
 go_wp2_with fail
 refine AK.out.mono ?_;rintro e w1 ⟨hp,hb⟩;have BX:Hid (Below w.heap.size w w1):=HX.out.1.trans (hb.mono HX.out.1.size);have QX:Hid (Q7 w1 (w.heap.size+1)):=(Q7.of HX.out.2).later (hb.block _ hNX);rcases hp with ⟨h1,rfl⟩|⟨h1,i,hi,e1,e2,rfl⟩
 ·have HD:=a0b (b2f (long:=long) h1);generalize a1c s name u fr til=er at *;have hb1:(er != 0)=true:=by simpa using h1
  clear h1 AK HX hb x0 x1 x2 x3 x4
  go_wp2_with fail
  refine (a0D er w1).mono ?_;rintro e w2 ⟨rfl,hb2⟩;have hq:=hb2.block (w.heap.size+1) (World.block_lt_of_cell? _ _ QX.out.q0)
  have HF:Hid (a0l w d col (Desk.a0g s (.find name u long fr til)) (a0s er 0 0 (.slice none 0 0) (.slice none 0 0) (.slice none 0 0) (.slice none 0 0)) (a2w w2 (w.heap.size+1) (.int .i64 er) (.int .i64 0) (.int .i64 0) (.slice none 0 0) (.slice none 0 0) (.slice none 0 0) (.slice none 0 0))):=by
   rw[HD.out];exact HH.out.said (BX.out.trans (hb2.mono BX.out.size)) (by omega) er 0 _ _ _ _ _ _ _
  obtain⟨q0,q1,q2,q3,q4,q5,q6,fq⟩:=QX.out.later hq;simp only[a0s]
  go_wp2_with fail
  exact bodyPost_ret (v:=a0s er 0 0 (.slice none 0 0) (.slice none 0 0) (.slice none 0 0) (.slice none 0 0)) (by simp[results,Tryz.results101,go_sem,a0s,q0,q1,q2,q3,q4,q5,q6]) rfl ⟨_,rfl,HF.out⟩
 ·have HD:=a0b (c1b (long:=long) h1);have y1:=(zo (w:=X) (a:=⟨w.heap.size,1,none⟩) (hb.block w.heap.size (by omega))).trans x1;have y2:=(zo (w:=X) (a:=⟨w.heap.size,2,none⟩) (hb.block w.heap.size (by omega))).trans x2;have y3:=(zo (w:=X) (a:=⟨w.heap.size,3,none⟩) (hb.block w.heap.size (by omega))).trans x3;have y4:=(zo (w:=X) (a:=⟨w.heap.size,4,none⟩) (hb.block w.heap.size (by omega))).trans x4;obtain⟨ul,us,Fl,Fs,t1,t2⟩:=(HH.out.dk.later BX.out).th i hi;have cu:=t1.c1
  have hu9:1<=r.tg[i].a0c/\r.tg[i].a0c<=9:=by
   have hin:(r.tg[i].name,r.tg[i].a0c)∈s.ts:=by rw[<- HH.out.of.tsAt hi];exact zg _
   exact HH.out.inv.tu _ hin
  have hw1:IntKind.i64.wrap (r.tg[i].a0c-u)=r.tg[i].a0c-u:=a0i (by have:=hl.1;have:=hl.2.1;omega) (by have:=hl.1;omega);have RC:=a0b (c1k HH.out (wx:=w1.drew) BX.out.drew (u:=u) hi hl.2.2.2.2.1 (a1E h1).2 hl.2.2.2.2.2.2.2 hl.2.2.1 hl.2.2.2.1 (by have:=hl.1;omega));rw[e1] at RC
  have RD:Hid (Calls Tryz.prog 154 #[.pointer (some ⟨r.tg[i].tb,2,none⟩),.agg #[.int .i64 fr,.int .i64 til],.int .i64 long,.int .i64 (r.tg[i].a0c-u)] w1.drew fun e w'=>∃ (x:Int) (bq:Bool),e=.returned (.tuple #[.int .i64 x,.bool bq])/\Desk.a9A s.ts s.es name u long fr til=(if bq then x else -1)/\Below w1.drew.heap.size w1.drew w'):=by
   refine RC.out.mono ?_;rintro e w' ⟨q,rfl,hq,hb2⟩
   cases q with
   |none=>exact⟨0,false,rfl,hq,hb2⟩
   |some x=>exact⟨x,true,rfl,hq,hb2⟩
  have AF:Hid (∀ w2 nn,Below w1.drew.heap.size w1.drew w2->(Desk.a9A s.ts s.es name u long fr til)=nn->Q7 w2 (w.heap.size+1)/\a0l w d col (Desk.a0g s (.find name u long fr til)) (a0s 0 0 nn (.slice none 0 0) (.slice none 0 0) (.slice none 0 0) (.slice none 0 0)) (a2w w2 (w.heap.size+1) (.int .i64 0) (.int .i64 0) (.int .i64 nn) (.slice none 0 0) (.slice none 0 0) (.slice none 0 0) (.slice none 0 0))):=fun w2 nn k2 e=>⟨QX.out.later (k2.block _ (World.block_lt_of_cell? _ _ QX.out.q0)),by rw[HD.out,<- e];exact HH.out.said (BX.out.drew.trans (k2.mono BX.out.size)) (by omega) 0 (Desk.a9A s.ts s.es name u long fr til) _ _ _ _ _ _ _⟩
  clear h1 AK HX hb x0 x1 x2 x3 x4 e1 e2 HD t1 t2 hu9 RC;generalize r.tg[i].a0c=un at *;generalize r.tg[i].tb=tb at *
  go_upto_region 4 with fail
  have AC:Hid (∀ w2,Below w1.drew.heap.size w1.drew w2->w2.cell? ⟨w.heap.size,1,none⟩=some (.int .i64 u)/\w2.cell? ⟨w.heap.size,2,none⟩=some (.int .i64 long)/\w2.cell? ⟨w.heap.size,3,none⟩=some (.int .i64 fr)/\w2.cell? ⟨w.heap.size,4,none⟩=some (.int .i64 til)/\w2.cell? ⟨tb,1,none⟩=some (.int .i64 un)):=fun w2 k=>⟨a0a k y1,a0a k y2,a0a k y3,a0a k y4,a0a k cu⟩
  go_region_held3 (fun w'=>w'.cell? ⟨w.heap.size,1,none⟩=some (.int .i64 u)/\w'.cell? ⟨w.heap.size,2,none⟩=some (.int .i64 long)/\w'.cell? ⟨w.heap.size,3,none⟩=some (.int .i64 fr)/\w'.cell? ⟨w.heap.size,4,none⟩=some (.int .i64 til)/\w'.cell? ⟨tb,1,none⟩=some (.int .i64 un))
   (first
    |exact⟨y1,y2,y3,y4,cu⟩
    |exact AC.out _ hb2)
   (first
    |(go_at_call 154;refine RD.out.mono ?_;rintro e w2 ⟨x,bq,rfl,hq,hb2⟩))
  have HB:=a0b hb2
  cases bq
  all_goals
   have HQ:=a0b hq;clear hq hb2 AC y1 y2 y3 y4 cu
  ·have FF:=a0b (AF.out w2 (-1) HB.out HQ.out);obtain⟨⟨q0,q1,q2,q3,q4,q5,q6,fq⟩,_⟩:=AF.out w2 (-1) HB.out HQ.out;clear AF RD
   go_wp2_with fail
   exact bodyPost_ret (v:=a0s 0 0 (-1) (.slice none 0 0) (.slice none 0 0) (.slice none 0 0) (.slice none 0 0)) (by simp[results,Tryz.results101,go_sem,a0s,q0,q1,q2,q3,q4,q5,q6]) rfl ⟨_,rfl,FF.out.2⟩
  ·have FF:=a0b (AF.out w2 x HB.out HQ.out);obtain⟨⟨q0,q1,q2,q3,q4,q5,q6,fq⟩,_⟩:=AF.out w2 x HB.out HQ.out;clear AF RD
   go_wp2_with fail
   exact bodyPost_ret (v:=a0s 0 0 x (.slice none 0 0) (.slice none 0 0) (.slice none 0 0) (.slice none 0 0)) (by simp[results,Tryz.results101,go_sem,a0s,q0,q1,q2,q3,q4,q5,q6]) rfl ⟨_,rfl,FF.out.2⟩
theorem a7O:∀ (n:Nat)(lo hi:Int),Lev.canon n (fun _=>0) lo hi=.nil
 |0,_,_=>by simp[Lev.canon,Lev.mk,Lev.isNil]
 |n+1,lo,hi=>by
  simp only[Lev.canon];have h1:=a7O n lo (Lev.mid lo hi);have h2:=a7O n (Lev.mid lo hi) hi;rw[h1,h2];simp[Lev.mk,Lev.isNil]
theorem c0x:b1M (fun _=>0)=.nil:=a7O 20 0 1048320
theorem b2H{name:ByteArray}:∀ {es:List Ent},(∀ e∈es,ofB name e=false)->a1C name es=fun _=>0
 |[],_=>by funext p;rfl
 |e :: es,h=>by
  funext p
  have ih:=congrFun (b2H (name:=name) (es:=es) (fun x hx=>h x (List.mem_cons_of_mem _ hx))) p;simp only[a1C,h e List.mem_cons_self,ih];rfl
theorem Of.a0k{r:Raw}(h:Of s r){tb:Nat}(hno:∀ t∈r.tg,t.name≠name):Of { s with ts:=s.ts++[(name,u)] } { r with tg:=r.tg++[⟨name,u,tb,fun _=>0,.nil⟩] }:=by
 have hof:∀ e∈s.es,ofB name e=false:=fun e he=>by
  obtain⟨g,hg,rfl⟩:=h.get he;obtain⟨i,hi,e1,e2⟩:=h.tb g hg;have:a0y g.e.a0k name=false:=a3d.2 (fun e3=>hno _ (zg hi) (by rw[e1,e3]));simp[ofB,this]
 refine⟨h.now,h.given,by show (r.tg++[_]).map _=_;rw[List.map_append,h.ts];rfl,h.es,fun i hi=>?_,fun g hg=>?_⟩
 ·have hi':i<r.tg.length+1:=by simpa using hi
  by_cases e:i<r.tg.length
  ·have e2:(r.tg++[(⟨name,u,tb,fun _=>0,.nil⟩:TG)])[i]'(by simpa using hi')=r.tg[i]:=List.getElem_append_left e;show (r.tg++[(⟨name,u,tb,fun _=>0,.nil⟩:TG)])[i].A=a1C (r.tg++[(⟨name,u,tb,fun _=>0,.nil⟩:TG)])[i].name s.es/\a2e (r.tg++[(⟨name,u,tb,fun _=>0,.nil⟩:TG)])[i].name s.es (atE r.eg) (r.tg++[(⟨name,u,tb,fun _=>0,.nil⟩:TG)])[i].T;rw[e2];exact h.th i e
  ·have e3:i=r.tg.length:=by omega
   subst e3;have e2:(r.tg++[(⟨name,u,tb,fun _=>0,.nil⟩:TG)])[r.tg.length]'(by simp)=⟨name,u,tb,fun _=>0,.nil⟩:=by simp
   show (r.tg++[(⟨name,u,tb,fun _=>0,.nil⟩:TG)])[r.tg.length].A=a1C (r.tg++[(⟨name,u,tb,fun _=>0,.nil⟩:TG)])[r.tg.length].name s.es/\a2e (r.tg++[(⟨name,u,tb,fun _=>0,.nil⟩:TG)])[r.tg.length].name s.es (atE r.eg) (r.tg++[(⟨name,u,tb,fun _=>0,.nil⟩:TG)])[r.tg.length].T;rw[e2];refine⟨(b2H hof).symm,List.Pairwise.nil,fun z=>?_⟩;constructor
   ·intro hz;simp[Avl.a0w] at hz
   ·rintro ⟨e,he,h1,_⟩;rw[hof e he] at h1;cases h1
 ·obtain⟨i,hi,e1,e2⟩:=h.tb g hg;have e3:(r.tg++[(⟨name,u,tb,fun _=>0,.nil⟩:TG)])[i]'(by simp;omega)=r.tg[i]:=List.getElem_append_left hi;refine⟨i,(by show i<(r.tg++[_]).length;simp;omega),?_,?_⟩
  ·exact (congrArg TG.name e3).trans e1
  ·exact e2.trans (congrArg TG.tb e3).symm
theorem b5R{r:Raw}(h:b2r r.tg name=none):∀ t∈r.tg,t.name≠name:=by
 intro t ht e;rw[a3r] at h
 cases e2:r.tg.find? fun t=>a0y t.name name with
 |none=>exact (List.find?_eq_none.1 e2 t ht) (a4l.2 e)
 |some y=>rw[e2] at h;cases h
theorem DSt.newT{w1:World}{r:Raw}(h:DSt w d s r col)(k:Below w.heap.size w w1)(hn:name.size<=1000)(ht:b2r r.tg name=none)(hl:r.tg.length<4)(h7:Q7 w1 (w.heap.size+1)):
  ∃ m,w1.cell? ⟨d,2,none⟩=some (.map (some m))/\∃ w3,(Instr.mapUpdate 137 (.map (some m)) (.string name) (.pointer (some ⟨w1.heap.size,0,none⟩))).run Tryz.prog (w1.alloc (.cells #[.string name,.int .i64 u,.pointer none,.pointer none] 243)).drew=.ok () w3/\Q7 w3 (w.heap.size+1)/\∀ a b c e f g i,a0l w d col ({ s with ts:=s.ts++[(name,u)] },Desk.Rep.num 0) (a0s 0 0 0 (.slice none 0 0) (.slice none 0 0) (.slice none 0 0) (.slice none 0 0)) (a2w w3 (w.heap.size+1) a b c e f g i):=by
 have d1:=h.dk.later k;have kz:Below w1.heap.size w1 (w1.alloc (.cells #[.string name,.int .i64 u,.pointer none,.pointer none] 243)).drew:=((zr _ _).alloc (zq _) _).drew;have d2:=d1.later kz;have hb:=a0p w1 (.cells #[.string name,.int .i64 u,.pointer none,.pointer none] 243);have hbd:(w1.alloc (.cells #[.string name,.int .i64 u,.pointer none,.pointer none] 243)).drew.heap[w1.heap.size]?=some (.cells #[.string name,.int .i64 u,.pointer none,.pointer none] 243 (0,0)):=hb;have hq2:Q7 (w1.alloc (.cells #[.string name,.int .i64 u,.pointer none,.pointer none] 243)).drew (w.heap.size+1):=h7.later (kz.block _ (World.block_lt_of_cell? _ _ h7.q0));have hq0:w.heap.size+1<w1.heap.size:=World.block_lt_of_cell? _ _ h7.q0;obtain⟨m0,_,a0,_⟩:=d1.mt;obtain⟨m,f,a1,a2,a3,a4⟩:=d2.mt
 have hm:m0=m:=by
  have e:=kz.cell (p:=⟨d,2,none⟩) (World.block_lt_of_cell? _ _ a0);rw[a0,a1] at e
  injection e with e;injection e with e;injection e with e
  exact e.symm
 subst hm;refine⟨m0,a0,?_⟩;generalize (w1.alloc (.cells #[.string name,.int .i64 u,.pointer none,.pointer none] 243)).drew=Z at *;obtain⟨w3,hrun,p1,p2⟩:=a3.storeRun c0z Tryz.underlying137 (by unfold maxLen;omega) (b4Z hn) (by unfold b8f;trivial) w1.heap.size
 have hT:TH Z w1.heap.size name u (fun _=>0) .nil none none [] []:=by
  refine⟨?_,?_,?_,?_,fun o=>frozen_of_row _ _ _ _ _ hbd,?_,⟨rfl,rfl⟩,by simp,by simp,by simp⟩
  ·simp only[World.cell?,hbd];rfl
  ·simp only[World.cell?,hbd];rfl
  ·simp only[World.cell?,hbd];rfl
  ·simp only[World.cell?,hbd];rfl
  ·rw[c0x];exact⟨rfl,rfl⟩
 obtain⟨c2,e1,e2,e3⟩:=d2.insTn (t:=⟨name,u,w1.heap.size,fun _=>0,.nil⟩) (B:=w1.heap.size) a1 a2 a4 hT (d1.none (zq _)) (zq _) (b5R ht) p1 p2;have hqc:col (w.heap.size+1)=none:=h.dk.none (by omega);have hmq:w.heap.size+1≠m0:=fun e=>by rw[e,a2] at hqc;cases hqc
 have hql:w.heap.size+1<Z.heap.size:=World.block_lt_of_cell? _ _ hq2.q0;have hb3:w3.heap[w.heap.size+1]?=Z.heap[w.heap.size+1]?:=p2.block _ hql (fun e=>hmq (Option.some.inj e));refine⟨w3,hrun,hq2.later hb3,fun a b c e f g i=>a5O e1 (h.of.a0k (b5R ht)) h.wl h.hl (((Step.below k).trans (Step.below kz)).trans (e2.any k.size)) (by omega) (e3 _ hqc (by show w.heap.size+1≠w1.heap.size;omega)) 0 0 a b c e f g i⟩
theorem c4o(w:World):(zeroValue 198).run Tryz.prog w=.ok (.pointer none) w:=by simp[go_sem]
theorem b9j{r:Raw}(h:DSt w d s r col)(name:ByteArray)(hn:name.size<=1000)(u:Int):
  Calls Tryz.prog 91 #[.pointer (some ⟨d,0,none⟩),.agg #[.string name,.int .i64 u]] w fun e w'=>∃ v,e=.returned v/\a0l w d col (Desk.a0g s (.a0k name u)) v w':=by
 obtain⟨hX,hXQ⟩:=a2q (w:=w) (.cells #[.string name,.int .i64 u] 149);have x0:((w.alloc (.cells #[.string name,.int .i64 u] 149)).alloc a0f).cell? ⟨w.heap.size,0,none⟩=some (.string name):=by simp[a0f]
 have x1:((w.alloc (.cells #[.string name,.int .i64 u] 149)).alloc a0f).cell? ⟨w.heap.size,1,none⟩=some (.int .i64 u):=by simp[a0f]
 have hNX:w.heap.size+1<((w.alloc (.cells #[.string name,.int .i64 u] 149)).alloc a0f).heap.size:=by simp
 have HH:=a0b h;have HX:=a0b (zA hX hXQ);clear h hX hXQ
 go_enter Tryz.func91,Tryz.ntmps91
 go_upto_region 1 with fail
 change Code.wp _ _ _ _ ((w.alloc (.cells #[.string name,.int .i64 u] 149)).alloc a0f);generalize (w.alloc (.cells #[.string name,.int .i64 u] 149)).alloc a0f=X at *;have hx:=HH.out.dk.later HX.out.1;obtain⟨m,f,a1,a2,a3,a4⟩:=hx.mt;have hlook:=(a3.block (w':=X.drew) rfl).look c0z Tryz.underlying137 (c4o X.drew) (b4Z hn);have hlen:=(a3.block (w':=X.drew) rfl).len Tryz.underlying137;rw[a4 name] at hlook;have QX:Hid (Q7 X.drew (w.heap.size+1)):=Q7.of HX.out.2;have BX:Hid (Below w.heap.size w X.drew):=HX.out.1.drew;have htl:=HH.out.inv.tl;rw[<- HH.out.of.len] at htl
 cases ht:b2r r.tg name with
 |some b =>
  rw[ht] at hlook;have hlook':(Instr.lookup 137 (.map (some m)) (.string name) false).run Tryz.prog X.drew=.ok (.pointer (some ⟨b,0,none⟩)) X.drew:=hlook
  have HD:Hid (Desk.a0g s (.a0k name u)=(s,Desk.Rep.error 4)):=by
   obtain⟨i,hi,e1,e2,e3⟩:=b2B HH.out.of HH.out.inv.tn ht;have hin:(r.tg[i].name,r.tg[i].a0c)∈s.ts:=by rw[<- HH.out.of.tsAt hi];exact zg _
   have:=(HH.out.inv.tu _ hin).1;simp only[Hid,Desk.a0g];rw[if_pos (by rw[e3];omega)]
  clear hlook a3 a4 ht hx HX hlen
  go_big_region
  clear hlook' x0 x1 a1
  go_wp2_with fail
  refine (a0D 4 X.drew).mono ?_;rintro e w2 ⟨rfl,hb2⟩;have hq:=hb2.block (w.heap.size+1) (World.block_lt_of_cell? _ _ QX.out.q0)
  have HF:Hid (a0l w d col (Desk.a0g s (.a0k name u)) (a0s 4 0 0 (.slice none 0 0) (.slice none 0 0) (.slice none 0 0) (.slice none 0 0)) (a2w w2 (w.heap.size+1) (.int .i64 4) (.int .i64 0) (.int .i64 0) (.slice none 0 0) (.slice none 0 0) (.slice none 0 0) (.slice none 0 0))):=by
   rw[HD.out];exact HH.out.said (BX.out.trans (hb2.mono BX.out.size)) (by omega) 4 0 _ _ _ _ _ _ _
  obtain⟨q0,q1,q2,q3,q4,q5,q6,fq⟩:=QX.out.later hq;simp only[a0s]
  go_wp2_with fail
  exact bodyPost_ret (v:=a0s 4 0 0 (.slice none 0 0) (.slice none 0 0) (.slice none 0 0) (.slice none 0 0)) (by simp[results,Tryz.results91,go_sem,a0s,q0,q1,q2,q3,q4,q5,q6]) rfl ⟨_,rfl,HF.out⟩
 |none =>
  rw[ht] at hlook;have hlook':(Instr.lookup 137 (.map (some m)) (.string name) false).run Tryz.prog X.drew=.ok (.pointer none) X.drew:=hlook;have hun:=b2C HH.out.of ht;have b1:X.drew.cell? ⟨d,2,none⟩=some (.map (some m)):=a1;have z0:X.drew.cell? ⟨w.heap.size,0,none⟩=some (.string name):=x0;have z1:X.drew.cell? ⟨w.heap.size,1,none⟩=some (.int .i64 u):=x1
  by_cases h4:r.tg.length=4
  ·rw[h4] at hlen
   have HD:Hid (Desk.a0g s (.a0k name u)=(s,Desk.Rep.error 5)):=by
    simp only[Hid,Desk.a0g];rw[if_neg (by omega),if_pos (by rw[<- HH.out.of.len];exact h4)]
   clear hlook a3 a4 ht hx HX
   go_big_region
   clear hlook' x0 x1 a1;generalize X.drew=Y at *
   go_wp2_with fail
   refine (a0D 5 Y).mono ?_;rintro e w2 ⟨rfl,hb2⟩;have hq:=hb2.block (w.heap.size+1) (World.block_lt_of_cell? _ _ QX.out.q0)
   have HF:Hid (a0l w d col (Desk.a0g s (.a0k name u)) (a0s 5 0 0 (.slice none 0 0) (.slice none 0 0) (.slice none 0 0) (.slice none 0 0)) (a2w w2 (w.heap.size+1) (.int .i64 5) (.int .i64 0) (.int .i64 0) (.slice none 0 0) (.slice none 0 0) (.slice none 0 0) (.slice none 0 0))):=by
    rw[HD.out];exact HH.out.said (BX.out.trans (hb2.mono BX.out.size)) (by omega) 5 0 _ _ _ _ _ _ _
   obtain⟨q0,q1,q2,q3,q4,q5,q6,fq⟩:=QX.out.later hq;simp only[a0s]
   go_wp2_with fail
   exact bodyPost_ret (v:=a0s 5 0 0 (.slice none 0 0) (.slice none 0 0) (.slice none 0 0) (.slice none 0 0)) (by simp[results,Tryz.results91,go_sem,a0s,q0,q1,q2,q3,q4,q5,q6]) rfl ⟨_,rfl,HF.out⟩
  ·have HD:Hid (Desk.a0g s (.a0k name u)=({ s with ts:=s.ts++[(name,u)] },Desk.Rep.num 0)):=by
    simp only[Hid,Desk.a0g];rw[if_neg (by omega),if_neg (by rw[<- HH.out.of.len];exact h4)]
   have HT:=a0b ht;have hl4:(r.tg.length:Int)<4:=by omega
   clear hlook a3 a4 ht hx HX
   go_big_region
   clear hlook' x0 x1 a1;generalize X.drew=Y at *
   go_wp2_with fail
   refine (b3Q name Y (by omega)).mono ?_;rintro e w1 ⟨rfl,hb⟩;have hNY:w.heap.size+1<Y.heap.size:=World.block_lt_of_cell? _ _ QX.out.q0;obtain⟨m2,g1,w3,hrun,q7,hf⟩:=HH.out.newT (u:=u) (BX.out.trans (hb.mono BX.out.size)) hn HT.out (by omega) (QX.out.later (hb.block _ hNY));have g2:w1.cell? ⟨w.heap.size,1,none⟩=some (.int .i64 u):=a0a hb z1;have HF:Hid (a0l w d col (Desk.a0g s (.a0k name u)) (a0s 0 0 0 (.slice none 0 0) (.slice none 0 0) (.slice none 0 0) (.slice none 0 0)) (a2w w3 (w.heap.size+1) (.int .i64 0) (.int .i64 0) (.int .i64 0) (.slice none 0 0) (.slice none 0 0) (.slice none 0 0) (.slice none 0 0))):=by rw[HD.out];exact hf _ _ _ _ _ _ _
   have ka:Below w1.heap.size w1 (w1.alloc (.cells #[.string name,.int .i64 u,.pointer none,.pointer none] 243)):=(zr _ _).alloc (zq _) _;have g1a:=a0a ka g1;have g2a:=a0a ka g2;clear hf hb hlen z0 z1 b1 ka
   go_upto_region 6 with fail
   go_big_region
   clear hrun g1 g2 g1a g2a;obtain⟨q0,q1,q2,q3,q4,q5,q6,fq⟩:=q7
   go_wp2_with fail
   exact bodyPost_ret (v:=a0s 0 0 0 (.slice none 0 0) (.slice none 0 0) (.slice none 0 0) (.slice none 0 0)) (by simp[results,Tryz.results91,go_sem,a0s,q0,q1,q2,q3,q4,q5,q6]) rfl ⟨_,rfl,HF.out⟩
theorem b3V{r:Raw}(h:DSt w d s r col)(name:ByteArray)(hn:name.size<=1000)(u:Int):
  Calls Tryz.prog 64 #[.pointer (some ⟨d,0,none⟩),.iface 149 (.agg #[.string name,.int .i64 u])] w fun e w'=>∃ v,e=.returned v/\a0l w d col (Desk.a0g s (.a0k name u)) v w':=by
 have hX:Below w.heap.size w ((w.alloc a0f).alloc (.cells #[.string name,.int .i64 u] 149)):=((zr _ _).alloc (zq _) _).alloc (by simp) _;have hq:((w.alloc a0f).alloc (.cells #[.string name,.int .i64 u] 149)).heap[w.heap.size]?=some a0f:=(Below.heap_alloc _ _ _ (by simp)).trans (a0p w a0f);have hs:w.heap.size<((w.alloc a0f).alloc (.cells #[.string name,.int .i64 u] 149)).heap.size:=by simp;omega
 have EF:=a0b (b9j (w:=((w.alloc a0f).alloc (.cells #[.string name,.int .i64 u] 149))) ⟨h.dk.later hX,h.of,h.wl,h.hl,h.inv⟩ name hn u);have HX:=a0b (zA hX (zA (Q7.of hq) (zA (h.dk.none (zq _)) hs)));clear h hX hq hs;unfold a0f at EF HX;have yesThing:∀ (xT:TypeId) (v:Value) (w:World),(Instr.typeAssert (.iface 149 v) xT 149 true).run Tryz.prog w=.ok (.tuple #[v,.bool true]) w:=by intro xT v w;simp[Instr.typeAssert,go_sem,Result.andThen,run_underlying Tryz.underlying149]
 go_enter Tryz.func64,Tryz.ntmps64
 go_wp2_with fail
 refine EF.out.mono ?_;rintro e w2 ⟨v,rfl,ep⟩;obtain⟨er,at_,nn,a1,a2,a3,a4,n1,n2,n3,n4,c1,c2,c3,c4,rfl,q7,hf⟩:=ep.up HX.out.1 (zq _) HX.out.2.2.2 HX.out.2.2.1 HX.out.2.1;have HF:=a0b (hf (.int .i64 er) (.int .i64 at_) (.int .i64 nn) (.slice a1 n1 c1) (.slice a2 n2 c2) (.slice a3 n3 c3) (.slice a4 n4 c4));clear ep hf EF yesThing;obtain⟨q0,q1,q2,q3,q4,q5,q6,fq⟩:=q7;simp only[a0s]
 go_wp2_with fail
 exact bodyPost_ret (v:=a0s er at_ nn (.slice a1 n1 c1) (.slice a2 n2 c2) (.slice a3 n3 c3) (.slice a4 n4 c4)) (by simp[results,Tryz.results64,go_sem,a0s,q0,q1,q2,q3,q4,q5,q6]) rfl ⟨_,rfl,HF.out⟩
theorem b5G{r:Raw}(h:DSt w d s r col)(name:ByteArray)(hn:name.size<=1000)(u fr til:Int)(hl:Desk.a1O (.enter 1 name u fr til 0)):
  Calls Tryz.prog 64 #[.pointer (some ⟨d,0,none⟩),.iface 154 (.agg #[.string name,.int .i64 u,.int .i64 fr,.int .i64 til])] w fun e w'=>∃ v,e=.returned v/\a0l w d col (Desk.a0g s (.enter 1 name u fr til 0)) v w':=by
 have hX:Below w.heap.size w ((w.alloc a0f).alloc (.cells #[.string name,.int .i64 u,.int .i64 fr,.int .i64 til] 154)):=((zr _ _).alloc (zq _) _).alloc (by simp) _;have hq:((w.alloc a0f).alloc (.cells #[.string name,.int .i64 u,.int .i64 fr,.int .i64 til] 154)).heap[w.heap.size]?=some a0f:=(Below.heap_alloc _ _ _ (by simp)).trans (a0p w a0f);have hs:w.heap.size<((w.alloc a0f).alloc (.cells #[.string name,.int .i64 u,.int .i64 fr,.int .i64 til] 154)).heap.size:=by simp;omega
 have EF:=a0b (c3F (w:=((w.alloc a0f).alloc (.cells #[.string name,.int .i64 u,.int .i64 fr,.int .i64 til] 154))) ⟨h.dk.later hX,h.of,h.wl,h.hl,h.inv⟩ name hn u fr til hl);have HX:=a0b (zA hX (zA (Q7.of hq) (zA (h.dk.none (zq _)) hs)));clear h hX hq hs;unfold a0f at EF HX;have noThing:=d0q 154 (by decide);have yesBook:∀ (xT:TypeId) (v:Value) (w:World),(Instr.typeAssert (.iface 154 v) xT 154 true).run Tryz.prog w=.ok (.tuple #[v,.bool true]) w:=by intro xT v w;simp[Instr.typeAssert,go_sem,Result.andThen,run_underlying Tryz.underlying154]
 go_enter Tryz.func64,Tryz.ntmps64
 go_wp2_with fail
 refine EF.out.mono ?_;rintro e w2 ⟨v,rfl,ep⟩;obtain⟨er,at_,nn,a1,a2,a3,a4,n1,n2,n3,n4,c1,c2,c3,c4,rfl,q7,hf⟩:=ep.up HX.out.1 (zq _) HX.out.2.2.2 HX.out.2.2.1 HX.out.2.1;have HF:=a0b (hf (.int .i64 er) (.int .i64 at_) (.int .i64 nn) (.slice a1 n1 c1) (.slice a2 n2 c2) (.slice a3 n3 c3) (.slice a4 n4 c4));clear ep hf EF noThing yesBook;obtain⟨q0,q1,q2,q3,q4,q5,q6,fq⟩:=q7;simp only[a0s]
 go_wp2_with fail
 exact bodyPost_ret (v:=a0s er at_ nn (.slice a1 n1 c1) (.slice a2 n2 c2) (.slice a3 n3 c3) (.slice a4 n4 c4)) (by simp[results,Tryz.results64,go_sem,a0s,q0,q1,q2,q3,q4,q5,q6]) rfl ⟨_,rfl,HF.out⟩
theorem b2n{r:Raw}(h:DSt w d s r col)(id:Int)(hid:0<=id/\id<=9999999):
  Calls Tryz.prog 64 #[.pointer (some ⟨d,0,none⟩),.iface 168 (.agg #[.int .i64 id])] w fun e w'=>∃ v,e=.returned v/\a0l w d col (Desk.a0g s (.cancel id)) v w':=by
 have hX:Below w.heap.size w ((w.alloc a0f).alloc (.cells #[.int .i64 id] 168)):=((zr _ _).alloc (zq _) _).alloc (by simp) _;have hq:((w.alloc a0f).alloc (.cells #[.int .i64 id] 168)).heap[w.heap.size]?=some a0f:=(Below.heap_alloc _ _ _ (by simp)).trans (a0p w a0f);have hs:w.heap.size<((w.alloc a0f).alloc (.cells #[.int .i64 id] 168)).heap.size:=by simp;omega
 have EF:=a0b (b8L (w:=((w.alloc a0f).alloc (.cells #[.int .i64 id] 168))) ⟨h.dk.later hX,h.of,h.wl,h.hl,h.inv⟩ id hid);have HX:=a0b (zA hX (zA (Q7.of hq) (zA (h.dk.none (zq _)) hs)));clear h hX hq hs;unfold a0f at EF HX;have noThing:=d0q 168 (by decide);have noBook:=d2o 168 (by decide);have noHold:=d2F 168 (by decide);have noWait:=d3H 168 (by decide);have noSeries:=d0K 168 (by decide);have noConfirm:=d0y 168 (by decide);have yesCancel:∀ (xT:TypeId) (v:Value) (w:World),(Instr.typeAssert (.iface 168 v) xT 168 true).run Tryz.prog w=.ok (.tuple #[v,.bool true]) w:=by intro xT v w;simp[Instr.typeAssert,go_sem,Result.andThen,run_underlying Tryz.underlying168]
 go_enter Tryz.func64,Tryz.ntmps64
 go_wp2_with fail
 refine EF.out.mono ?_;rintro e w2 ⟨v,rfl,ep⟩;obtain⟨er,at_,nn,a1,a2,a3,a4,n1,n2,n3,n4,c1,c2,c3,c4,rfl,q7,hf⟩:=ep.up HX.out.1 (zq _) HX.out.2.2.2 HX.out.2.2.1 HX.out.2.1;have HF:=a0b (hf (.int .i64 er) (.int .i64 at_) (.int .i64 nn) (.slice a1 n1 c1) (.slice a2 n2 c2) (.slice a3 n3 c3) (.slice a4 n4 c4));clear ep hf EF noThing noBook noHold noWait noSeries noConfirm yesCancel;obtain⟨q0,q1,q2,q3,q4,q5,q6,fq⟩:=q7;simp only[a0s]
 go_wp2_with fail
 exact bodyPost_ret (v:=a0s er at_ nn (.slice a1 n1 c1) (.slice a2 n2 c2) (.slice a3 n3 c3) (.slice a4 n4 c4)) (by simp[results,Tryz.results64,go_sem,a0s,q0,q1,q2,q3,q4,q5,q6]) rfl ⟨_,rfl,HF.out⟩
theorem b5C{r:Raw}(h:DSt w d s r col)(name:ByteArray)(hn:name.size<=1000)(fr til:Int)(hl:Desk.a1O (.peak name fr til)):
  Calls Tryz.prog 64 #[.pointer (some ⟨d,0,none⟩),.iface 176 (.agg #[.string name,.int .i64 fr,.int .i64 til])] w fun e w'=>∃ v,e=.returned v/\a0l w d col (Desk.a0g s (.peak name fr til)) v w':=by
 have hX:Below w.heap.size w ((w.alloc a0f).alloc (.cells #[.string name,.int .i64 fr,.int .i64 til] 176)):=((zr _ _).alloc (zq _) _).alloc (by simp) _;have hq:((w.alloc a0f).alloc (.cells #[.string name,.int .i64 fr,.int .i64 til] 176)).heap[w.heap.size]?=some a0f:=(Below.heap_alloc _ _ _ (by simp)).trans (a0p w a0f);have hs:w.heap.size<((w.alloc a0f).alloc (.cells #[.string name,.int .i64 fr,.int .i64 til] 176)).heap.size:=by simp;omega
 have EF:=a0b (c2D (w:=((w.alloc a0f).alloc (.cells #[.string name,.int .i64 fr,.int .i64 til] 176))) ⟨h.dk.later hX,h.of,h.wl,h.hl,h.inv⟩ name hn fr til hl);have HX:=a0b (zA hX (zA (Q7.of hq) (zA (h.dk.none (zq _)) hs)));clear h hX hq hs;unfold a0f at EF HX;have noThing:=d0q 176 (by decide);have noBook:=d2o 176 (by decide);have noHold:=d2F 176 (by decide);have noWait:=d3H 176 (by decide);have noSeries:=d0K 176 (by decide);have noConfirm:=d0y 176 (by decide);have noCancel:=d1Q 176 (by decide);have noList:=d8g 176 (by decide);have noWaiting:=d2E 176 (by decide);have yesPeak:∀ (xT:TypeId) (v:Value) (w:World),(Instr.typeAssert (.iface 176 v) xT 176 true).run Tryz.prog w=.ok (.tuple #[v,.bool true]) w:=by intro xT v w;simp[Instr.typeAssert,go_sem,Result.andThen,run_underlying Tryz.underlying176]
 go_enter Tryz.func64,Tryz.ntmps64
 go_wp2_with fail
 refine EF.out.mono ?_;rintro e w2 ⟨v,rfl,ep⟩;obtain⟨er,at_,nn,a1,a2,a3,a4,n1,n2,n3,n4,c1,c2,c3,c4,rfl,q7,hf⟩:=ep.up HX.out.1 (zq _) HX.out.2.2.2 HX.out.2.2.1 HX.out.2.1;have HF:=a0b (hf (.int .i64 er) (.int .i64 at_) (.int .i64 nn) (.slice a1 n1 c1) (.slice a2 n2 c2) (.slice a3 n3 c3) (.slice a4 n4 c4));clear ep hf EF noThing noBook noHold noWait noSeries noConfirm noCancel noList noWaiting yesPeak;obtain⟨q0,q1,q2,q3,q4,q5,q6,fq⟩:=q7;simp only[a0s]
 go_wp2_with fail
 exact bodyPost_ret (v:=a0s er at_ nn (.slice a1 n1 c1) (.slice a2 n2 c2) (.slice a3 n3 c3) (.slice a4 n4 c4)) (by simp[results,Tryz.results64,go_sem,a0s,q0,q1,q2,q3,q4,q5,q6]) rfl ⟨_,rfl,HF.out⟩
theorem b5F{r:Raw}(h:DSt w d s r col)(name:ByteArray)(hn:name.size<=1000)(u long fr til:Int)(hl:Desk.a1O (.find name u long fr til)):
  Calls Tryz.prog 64 #[.pointer (some ⟨d,0,none⟩),.iface 178 (.agg #[.string name,.int .i64 u,.int .i64 long,.int .i64 fr,.int .i64 til])] w fun e w'=>∃ v,e=.returned v/\a0l w d col (Desk.a0g s (.find name u long fr til)) v w':=by
 have hX:Below w.heap.size w ((w.alloc a0f).alloc (.cells #[.string name,.int .i64 u,.int .i64 long,.int .i64 fr,.int .i64 til] 178)):=((zr _ _).alloc (zq _) _).alloc (by simp) _;have hq:((w.alloc a0f).alloc (.cells #[.string name,.int .i64 u,.int .i64 long,.int .i64 fr,.int .i64 til] 178)).heap[w.heap.size]?=some a0f:=(Below.heap_alloc _ _ _ (by simp)).trans (a0p w a0f);have hs:w.heap.size<((w.alloc a0f).alloc (.cells #[.string name,.int .i64 u,.int .i64 long,.int .i64 fr,.int .i64 til] 178)).heap.size:=by simp;omega
 have EF:=a0b (c3j (w:=((w.alloc a0f).alloc (.cells #[.string name,.int .i64 u,.int .i64 long,.int .i64 fr,.int .i64 til] 178))) ⟨h.dk.later hX,h.of,h.wl,h.hl,h.inv⟩ name hn u long fr til hl);have HX:=a0b (zA hX (zA (Q7.of hq) (zA (h.dk.none (zq _)) hs)));clear h hX hq hs;unfold a0f at EF HX;have noThing:=d0q 178 (by decide);have noBook:=d2o 178 (by decide);have noHold:=d2F 178 (by decide);have noWait:=d3H 178 (by decide);have noSeries:=d0K 178 (by decide);have noConfirm:=d0y 178 (by decide);have noCancel:=d1Q 178 (by decide);have noList:=d8g 178 (by decide);have noWaiting:=d2E 178 (by decide);have noPeak:=e3J 178 (by decide);have yesFind:∀ (xT:TypeId) (v:Value) (w:World),(Instr.typeAssert (.iface 178 v) xT 178 true).run Tryz.prog w=.ok (.tuple #[v,.bool true]) w:=by intro xT v w;simp[Instr.typeAssert,go_sem,Result.andThen,run_underlying Tryz.underlying178]
 go_enter Tryz.func64,Tryz.ntmps64
 go_wp2_with fail
 refine EF.out.mono ?_;rintro e w2 ⟨v,rfl,ep⟩;obtain⟨er,at_,nn,a1,a2,a3,a4,n1,n2,n3,n4,c1,c2,c3,c4,rfl,q7,hf⟩:=ep.up HX.out.1 (zq _) HX.out.2.2.2 HX.out.2.2.1 HX.out.2.1;have HF:=a0b (hf (.int .i64 er) (.int .i64 at_) (.int .i64 nn) (.slice a1 n1 c1) (.slice a2 n2 c2) (.slice a3 n3 c3) (.slice a4 n4 c4));clear ep hf EF noThing noBook noHold noWait noSeries noConfirm noCancel noList noWaiting noPeak yesFind;obtain⟨q0,q1,q2,q3,q4,q5,q6,fq⟩:=q7;simp only[a0s]
 go_wp2_with fail
 exact bodyPost_ret (v:=a0s er at_ nn (.slice a1 n1 c1) (.slice a2 n2 c2) (.slice a3 n3 c3) (.slice a4 n4 c4)) (by simp[results,Tryz.results64,go_sem,a0s,q0,q1,q2,q3,q4,q5,q6]) rfl ⟨_,rfl,HF.out⟩
theorem b1Q(y m:Int)(w:World)(ht:Tab w):
  Calls Tryz.prog 294 #[.int .i64 y,.int .i64 m] w fun e w'=>e=.returned (.bool (Rd.reached y m))/\w'=w:=by
 cases h:Cal.ok y m 1
 ·have HC:=a0b (a9O y m 1 w ht h);have e:Rd.reached y m=false:=by unfold Rd.reached;rw[h];rfl
  rw[e];clear h ht e
  go_enter Tryz.func294,Tryz.ntmps294
  go_wp2_with fail
  refine HC.out.mono ?_;rintro e w1 ⟨rfl,rfl⟩
  go_wp2_with fail
  go_ret;exact⟨rfl,rfl⟩
 ·have HC:=a0b (a7P y m 1 w ht h);have e:Rd.reached y m=decide (Cal.num y m 1<728):=by unfold Rd.reached;rw[h];rfl
  rw[e];clear h ht e;generalize Cal.num y m 1=z at *
  go_enter Tryz.func294,Tryz.ntmps294
  go_wp2_with fail
  refine HC.out.mono ?_;rintro e w1 ⟨rfl,rfl⟩
  go_wp2_with fail
  go_ret;exact⟨rfl,rfl⟩
theorem b3g(y m ev:Int)(w:World)(h1:0<=y)(h2:y<=100000)(h3:1<=m)(h4:m<=12)(h5:1<=ev)(h6:ev<=99):
  Calls Tryz.prog 295 #[.int .i64 y,.int .i64 m,.int .i64 ev] w fun e w'=>e=.returned (.tuple #[.int .i64 (Rd.a4E y m ev),.int .i64 (Rd.a3J m ev)])/\w'=w:=by
 have k1:IntKind.i64.wrap (m-1)=m-1:=a0i (by omega) (by omega);have k2:IntKind.i64.wrap (m-1+ev)=m-1+ev:=a0i (by omega) (by omega);have k3:IntKind.i64.wrap ((m-1+ev).tdiv 12)=(m-1+ev) / 12:=by rw[Int.tdiv_eq_ediv_of_nonneg (by omega)];exact a0i (by omega) (by omega)
 have k4:IntKind.i64.wrap (y+(m-1+ev) / 12)=y+(m-1+ev) / 12:=a0i (by omega) (by omega);have k5:(m-1+ev).tmod 12=(m-1+ev) % 12:=Int.tmod_eq_emod_of_nonneg (by omega);have k6:IntKind.i64.wrap ((m-1+ev) % 12)=(m-1+ev) % 12:=a0i (by omega) (by omega);have k7:IntKind.i64.wrap ((m-1+ev) % 12+1)=(m-1+ev) % 12+1:=a0i (by omega) (by omega);unfold Rd.a4E Rd.a3J
 go_enter Tryz.func295,Tryz.ntmps295
 go_wp2_with fail
 go_ret2;simp
def a1S(r:Rd.a0Y):Value:=.agg #[.int .i64 r.pc,.int .i64 r.ev,.bool (isd r.acc 0),.bool (isd r.acc 1),.bool (isd r.acc 2),.bool (isd r.acc 3),.bool (isd r.acc 4),.bool (isd r.acc 5),.bool (isd r.acc 6),.int .i64 r.fr,.int .i64 r.mn,.int .i64 r.mi,.int .i64 r.ti,.int .i64 r.un]
def a4K(r:Rd.a0Y)(d:Int):Int × Int:=(d*1440+r.mn,d*1440+r.mn+r.mi)
theorem b0u(r:Rd.a0Y)(hf:Rd.a6s r)(d:Int)(h0:0<=d)(h1:d<100000)(w:World):
  Calls Tryz.prog 200 #[a1S r,.int .i64 d] w fun e w'=>e=.returned (.agg #[.int .i64 (a4K r d).1,.int .i64 (a4K r d).2])/\Below w.heap.size w w':=by
 have m0:=hf.m0;have m1:=hf.m1;have i1:=hf.i1;have i2:=hf.i2;have k1:IntKind.i64.wrap (d*1440)=d*1440:=a0i (by omega) (by omega);have k2:IntKind.i64.wrap (d*1440+r.mn)=d*1440+r.mn:=a0i (by omega) (by omega);have k3:IntKind.i64.wrap (d*1440+r.mn+r.mi)=d*1440+r.mn+r.mi:=a0i (by omega) (by omega);have HF:Hid (Below w.heap.size w ((w.alloc (.cells #[.int .i64 r.pc,.int .i64 r.ev,.bool (isd r.acc 0),.bool (isd r.acc 1),.bool (isd r.acc 2),.bool (isd r.acc 3),.bool (isd r.acc 4),.bool (isd r.acc 5),.bool (isd r.acc 6),.int .i64 r.fr,.int .i64 r.mn,.int .i64 r.mi,.int .i64 r.ti,.int .i64 r.un] 162)).alloc (.cells #[.int .i64 (d*1440+r.mn),.int .i64 (d*1440+r.mn+r.mi)] 60))):=((zr _ _).alloc (zq _) _).alloc (by simp) _;clear hf;unfold a1S
 go_enter Tryz.func200,Tryz.ntmps200
 go_wp2_with fail
 exact bodyPost_ret (v:=.agg #[.int .i64 (d*1440+r.mn),.int .i64 (d*1440+r.mn+r.mi)]) (by simp[results,Tryz.results200,go_sem]) rfl ⟨rfl,HF.out⟩
def a0u(r:Rd.a0Y):Obj:=(.cells #[.int .i64 r.pc,.int .i64 r.ev,.bool (isd r.acc 0),.bool (isd r.acc 1),.bool (isd r.acc 2),.bool (isd r.acc 3),.bool (isd r.acc 4),.bool (isd r.acc 5),.bool (isd r.acc 6),.int .i64 r.fr,.int .i64 r.mn,.int .i64 r.mi,.int .i64 r.ti,.int .i64 r.un] 162 (0,0))
theorem a7u{r:Rd.a0Y}(h:w.heap[b]?=some (a0u r)):w.cell? ⟨b,0,none⟩=some (.int .i64 r.pc):=by unfold a0u at h;simp only[World.cell?,h];rfl
theorem a3R{r:Rd.a0Y}(h:w.heap[b]?=some (a0u r)):w.cell? ⟨b,1,none⟩=some (.int .i64 r.ev):=by unfold a0u at h;simp only[World.cell?,h];rfl
theorem a7t{r:Rd.a0Y}(h:w.heap[b]?=some (a0u r)):w.cell? ⟨b,2,none⟩=some (.bool (isd r.acc 0)):=by unfold a0u at h;simp only[World.cell?,h];rfl
theorem a7s{r:Rd.a0Y}(h:w.heap[b]?=some (a0u r)):w.cell? ⟨b,3,none⟩=some (.bool (isd r.acc 1)):=by unfold a0u at h;simp only[World.cell?,h];rfl
theorem a7r{r:Rd.a0Y}(h:w.heap[b]?=some (a0u r)):w.cell? ⟨b,4,none⟩=some (.bool (isd r.acc 2)):=by unfold a0u at h;simp only[World.cell?,h];rfl
theorem a7q{r:Rd.a0Y}(h:w.heap[b]?=some (a0u r)):w.cell? ⟨b,5,none⟩=some (.bool (isd r.acc 3)):=by unfold a0u at h;simp only[World.cell?,h];rfl
theorem a7p{r:Rd.a0Y}(h:w.heap[b]?=some (a0u r)):w.cell? ⟨b,6,none⟩=some (.bool (isd r.acc 4)):=by unfold a0u at h;simp only[World.cell?,h];rfl
theorem a7o{r:Rd.a0Y}(h:w.heap[b]?=some (a0u r)):w.cell? ⟨b,7,none⟩=some (.bool (isd r.acc 5)):=by unfold a0u at h;simp only[World.cell?,h];rfl
theorem a7n{r:Rd.a0Y}(h:w.heap[b]?=some (a0u r)):w.cell? ⟨b,8,none⟩=some (.bool (isd r.acc 6)):=by unfold a0u at h;simp only[World.cell?,h];rfl
theorem a4m{r:Rd.a0Y}(h:w.heap[b]?=some (a0u r)):w.cell? ⟨b,9,none⟩=some (.int .i64 r.fr):=by unfold a0u at h;simp only[World.cell?,h];rfl
theorem a6E{r:Rd.a0Y}(h:w.heap[b]?=some (a0u r)):w.cell? ⟨b,10,none⟩=some (.int .i64 r.mn):=by unfold a0u at h;simp only[World.cell?,h];rfl
theorem a6D{r:Rd.a0Y}(h:w.heap[b]?=some (a0u r)):w.cell? ⟨b,11,none⟩=some (.int .i64 r.mi):=by unfold a0u at h;simp only[World.cell?,h];rfl
theorem a6C{r:Rd.a0Y}(h:w.heap[b]?=some (a0u r)):w.cell? ⟨b,12,none⟩=some (.int .i64 r.ti):=by unfold a0u at h;simp only[World.cell?,h];rfl
theorem a6B{r:Rd.a0Y}(h:w.heap[b]?=some (a0u r)):w.cell? ⟨b,13,none⟩=some (.int .i64 r.un):=by unfold a0u at h;simp only[World.cell?,h];rfl
open Go.RowKit Go.Shelf
attribute [local go_sem] Oper.semAt_some
def RK(n₀ Bn:Nat)(W W':World):Prop:=Below n₀ W W'/\W'.heap[Bn]?=W.heap[Bn]?
theorem c1j(F:Fence)(n:Nat)(h6:F.fn 296)(hro:F.round=none)(hn:1<=n)(l Bn n₀:Nat)(r:Rd.a0Y)(hf:Rd.a6s r)(J Jx:List Int->World->Prop)
  (hY:∀ pre x W,J pre W->pre.length<(Rd.b0f r.ev 800 r.fr).length->YieldAt F (n-1) Tryz.prog l #[.int .i64 x] W fun e W' =>
   (e=.returned (.bool true)/\J (pre++[x]) W'/\RK n₀ Bn W W')\/(e=.returned (.bool false)/\Jx (pre++[x]) W'))
  (W:World) (hr:W.heap[Bn]?=some (a0u r)) (h0:J [] W):
  CallsIn F n Tryz.prog 296 #[.func (.yield l) #[] #[],.pointer (some ⟨Bn,0,none⟩)] W fun e W'=>(∃ v,e=.returned v) /\
   ((∃ ys,ys=Rd.b0f r.ev 800 r.fr/\J ys W')\/(∃ pre,pre <+: Rd.b0f r.ev 800 r.fr/\Jx pre W')):=by
 have c9:=a4m hr;have e1:=hf.e1;have e2:=hf.e2;have f0:=hf.f0;have f1:=hf.f1;clear hf;generalize hS:Rd.b0f r.ev 800 r.fr=S at *;refine callsIn_of_wp Tryz.func296 rfl h6 ?_ hro;simp only[Tryz.ntmps296,List.size_toArray,List.length_cons,List.length_nil,Nat.reduceAdd,Nat.reduceSub,Array.replicate_succ,Array.replicate_zero,List.push_toArray,List.append_toArray,List.nil_append,List.cons_append]
 gi_wp2
 gi_loopw [3] (fun v wr=>∃ (d:Int) (f:Nat) (pre:List Int),v=.int .i64 d/\S=pre++Rd.b0f r.ev f d/\0<=d/\d<=10000/\728<=d+f/\J pre wr/\wr.heap[Bn]?=some (a0u r)) (fun v _=>(20000-intOf v).toNat)
 case atStart=>exact⟨r.fr,800,[],rfl,hS.symm,f0,by omega,by omega,h0,hr⟩
 case round =>
  obtain⟨d,f,pre,rfl,hx,hd0,hd1,hdf,hJ,hR⟩:=hrel
  by_cases hlt:d<728
  ·obtain⟨f',rfl⟩:∃ f',f=f'+1:=⟨f-1,by omega⟩;have q1:Rd.b0f r.ev (f'+1) d=d :: Rd.b0f r.ev f' (d+r.ev):=by simp[Rd.b0f,hlt]
   rw[q1] at hx;have k1:IntKind.i64.wrap (d+r.ev)=d+r.ev:=a0i (by omega) (by omega);obtain⟨fn,tmps,assign,body,hy,hRd⟩:=hY pre d wr hJ (by rw[hx];simp)
   gi_wp2
   refine hRd.mono ?_;rintro e W3 (⟨rfl,hJ3,hk3⟩|⟨rfl,hJx3⟩)
   ·have c1:=a3R (hk3.2.trans hR)
    gi_wp2
    go_roundw
    case rel=>exact⟨d+r.ev,f',pre++[d],by simp,by simp[hx],by omega,by omega,by omega,hJ3,hk3.2.trans hR⟩
    case measure=>simp[intOf];omega
   ·gi_wp2
    refine bodyPost_ret (results_none rfl _ _ _) rfl ?_;exact⟨⟨_,rfl⟩,.inr ⟨pre++[d],⟨Rd.b0f r.ev f' (d+r.ev),by simp[hx]⟩,hJx3⟩⟩
  ·have q1:Rd.b0f r.ev f d=[]:=by cases f <;> simp[Rd.b0f,hlt]
   rw[q1,List.append_nil] at hx;subst hx
   gi_wp2
   go_end0
   exact⟨⟨_,rfl⟩,.inl hJ⟩
attribute [local go_sem] Oper.semAt_some
theorem b9D{r:Rd.a0Y}(h:w.heap[b]?=some (a0u r)):∀ i:Nat,i<7->w.cell? ⟨b,2+i,none⟩=some (.bool (isd r.acc i))
 |0,_=>a7t h
 |1,_=>a7s h
 |2,_=>a7r h
 |3,_=>a7q h
 |4,_=>a7p h
 |5,_=>a7o h
 |6,_=>a7n h
 |i+7,hi=>by omega
theorem b7E(F:Fence)(n:Nat)(h6:F.fn 292)(hro:F.round=none)(hn:1<=n)(l Bn n₀:Nat)(r:Rd.a0Y)(hf:Rd.a6s r)(J Jx:List Int->World->Prop)
  (hY:∀ pre x W,J pre W->pre.length<(Rd.a9Y r.acc r.fr r.ev 800 (r.fr-r.fr % 7)).length->YieldAt F (n-1) Tryz.prog l #[.int .i64 x] W fun e W' =>
   (e=.returned (.bool true)/\J (pre++[x]) W'/\RK n₀ Bn W W')\/(e=.returned (.bool false)/\Jx (pre++[x]) W'))
  (W:World) (hr:W.heap[Bn]?=some (a0u r)) (h0:J [] W):
  CallsIn F n Tryz.prog 292 #[.func (.yield l) #[] #[],.pointer (some ⟨Bn,0,none⟩)] W fun e W'=>(∃ v,e=.returned v) /\
   ((∃ ys,ys=Rd.a9Y r.acc r.fr r.ev 800 (r.fr-r.fr % 7)/\J ys W')\/(∃ pre,pre <+: Rd.a9Y r.acc r.fr r.ev 800 (r.fr-r.fr % 7)/\Jx pre W')):=by
 have c9:=a4m hr;have e1:=hf.e1;have e2:=hf.e2;have f0:=hf.f0;have f1:=hf.f1;clear hf;have m1:r.fr.tmod 7=r.fr % 7:=Int.tmod_eq_emod_of_nonneg f0;have m2:IntKind.i64.wrap (r.fr % 7)=r.fr % 7:=a0i (by omega) (by omega);have m3:IntKind.i64.wrap (r.fr-r.fr % 7)=r.fr-r.fr % 7:=a0i (by omega) (by omega);have m4:IntKind.i64.wrap (r.ev*7)=r.ev*7:=a0i (by omega) (by omega);generalize hS:Rd.a9Y r.acc r.fr r.ev 800 (r.fr-r.fr % 7)=S at *;refine callsIn_of_wp Tryz.func292 rfl h6 ?_ hro;simp only[Tryz.ntmps292,List.size_toArray,List.length_cons,List.length_nil,Nat.reduceAdd,Nat.reduceSub,Array.replicate_succ,Array.replicate_zero,List.push_toArray,List.append_toArray,List.nil_append,List.cons_append]
 gi_wp2
 gi_loopw [3] (fun v wr=>∃ (d:Int) (f:Nat) (pre:List Int),v=.int .i64 d/\S=pre++Rd.a9Y r.acc r.fr r.ev f d/\0<=d/\d<=10000/\r.fr<d+7/\728<=d+f/\J pre wr/\wr.heap[Bn]?=some (a0u r)) (fun v _=>(20000-intOf v).toNat)
 case atStart=>exact⟨r.fr-r.fr % 7,800,[],rfl,hS.symm,by omega,by omega,by omega,by omega,h0,hr⟩
 case round =>
  obtain⟨mon,f,pre,rfl,hx,hd0,hd1,hfr,hdf,hJ,hR⟩:=hrel;clear c9 hr h0
  by_cases hlt:mon<728
  ·obtain⟨f',rfl⟩:∃ f',f=f'+1:=⟨f-1,by omega⟩;have q1:Rd.a9Y r.acc r.fr r.ev (f'+1) mon=Rd.c1K r.acc r.fr mon++Rd.a9Y r.acc r.fr r.ev f' (mon+r.ev*7):=by simp[Rd.a9Y,hlt]
   rw[q1] at hx;have k1:IntKind.i64.wrap (mon+r.ev*7)=mon+r.ev*7:=a0i (by omega) (by omega);have k2:IntKind.i64.wrap (mon+7)=mon+7:=a0i (by omega) (by omega);have c9:=a4m hR
   by_cases hm:r.fr<=mon
   ·have hwk:Rd.c1K r.acc r.fr mon=Rd.a1p (fun d=>isd r.acc (d-mon)) (7-0) (mon+((0:Nat):Int)):=by unfold Rd.c1K;rw[show max mon r.fr=mon from by omega,show (mon+7-mon).toNat=7 from by omega];simp
    gi_wp2
    gi_loopw [4] (fun v wr=>∃ (i:Nat) (pre':List Int),v=.int .i64 (mon+i)/\i<=7/\pre'++Rd.a1p (fun d=>isd r.acc (d-mon)) (7-i) (mon+i)=pre++Rd.c1K r.acc r.fr mon/\J pre' wr/\wr.heap[Bn]?=some (a0u r)) (fun v _=>(mon+7-intOf v).toNat)
    case atStart=>exact⟨0,pre,(by first|(simp;done)|(simp;omega)),by omega,by rw[hwk],hJ,hR⟩
    case round =>
     obtain⟨i,pre',rfl,hi,hu,hJ',hR'⟩:=hrel;clear hJ hR c9
     by_cases hi7:i<7
     ·have hlt2:mon+(i:Int)<mon+7:=by omega
      have on:=b9D hR' i hi7;have k3:IntKind.i64.wrap (mon+(i:Int)-mon)=i:=by rw[show mon+(i:Int)-mon=i from by omega];exact a0i (by omega) (by omega)
      have k4:IntKind.i64.wrap (mon+(i:Int)+1)=mon+i+1:=a0i (by omega) (by omega);have hp:mon+(i:Int)-mon=i:=by omega
      have q5:Rd.a1p (fun d=>isd r.acc (d-mon)) (7-i) (mon+i)=(if isd r.acc i then [mon+(i:Int)] else [])++Rd.a1p (fun d=>isd r.acc (d-mon)) (7-(i+1)) (mon+((i+1:Nat):Int)):=by
       rw[show 7-i=(7-(i+1))+1 from by omega,Rd.a1p,hp,show mon+((i+1:Nat):Int)=mon+i+1 from by omega]
       split <;> simp
      rw[q5] at hu
      cases hb:isd r.acc i
      ·rw[hb] at on hu
       gi_wp2
       refine⟨fun _ h=>(by cases h),?_⟩
       gi_wp2
       go_roundw
       case rel=>exact⟨i+1,pre',by simp;omega,by omega,by simpa using hu,hJ',hR'⟩
       case measure=>simp[intOf];omega
      ·rw[hb] at on hu;obtain⟨fn,tmps,assign,body,hy,hRd⟩:=hY pre' (mon+i) wr hJ' (by rw[hx,<- List.append_assoc,<- hu];simp)
       gi_wp2
       refine hRd.mono ?_;rintro e W3 (⟨rfl,hJ3,hk3⟩|⟨rfl,hJx3⟩)
       ·gi_wp2
        go_roundw
        case rel=>exact⟨i+1,pre'++[mon+(i:Int)],by simp;omega,by omega,by simpa using hu,hJ3,hk3.2.trans hR'⟩
        case measure=>simp[intOf];omega
       ·gi_wp2
        refine bodyPost_ret (results_none rfl _ _ _) rfl ?_;exact⟨⟨_,rfl⟩,.inr ⟨pre'++[mon+(i:Int)],⟨Rd.a1p (fun d=>isd r.acc (d-mon)) (7-(i+1)) (mon+((i+1:Nat):Int))++Rd.a9Y r.acc r.fr r.ev f' (mon+r.ev*7),by rw[hx,<- List.append_assoc,<- List.append_assoc,<- hu];simp⟩,hJx3⟩⟩
     ·have hlt2:¬ mon+(i:Int)<mon+7:=by omega
      have c1:=a3R hR';have e7:i=7:=by omega
      subst e7;simp only[Nat.sub_self,Rd.a1p,List.append_nil] at hu
      gi_wp2
      go_roundw
      case rel=>exact⟨mon+r.ev*7,f',pre',by simp,by rw[hx,hu,List.append_assoc],by omega,by omega,by omega,by omega,hJ',hR'⟩
      case measure=>simp[intOf];omega
   ·have hi0:r.fr=mon+((r.fr-mon).toNat:Int):=by omega
    have hwk:Rd.c1K r.acc r.fr mon=Rd.a1p (fun d=>isd r.acc (d-mon)) (7-(r.fr-mon).toNat) (mon+((r.fr-mon).toNat:Int)):=by unfold Rd.c1K;rw[<- hi0,show max mon r.fr=r.fr from by omega,show (mon+7-r.fr).toNat=7-(r.fr-mon).toNat from by omega]
    have HW:=a0b (zA hi0 hwk);clear hi0 hwk
    gi_wp2
    gi_loopw [4] (fun v wr=>∃ (i:Nat) (pre':List Int),v=.int .i64 (mon+i)/\i<=7/\pre'++Rd.a1p (fun d=>isd r.acc (d-mon)) (7-i) (mon+i)=pre++Rd.c1K r.acc r.fr mon/\J pre' wr/\wr.heap[Bn]?=some (a0u r)) (fun v _=>(mon+7-intOf v).toNat)
    case atStart=>exact⟨(r.fr-mon).toNat,pre,(by first|(rw[<- HW.out.1];done)|(rw[<- HW.out.1];congr 1;omega)),by omega,by rw[HW.out.2],hJ,hR⟩
    case round =>
     obtain⟨i,pre',rfl,hi,hu,hJ',hR'⟩:=hrel;clear hJ hR c9
     by_cases hi7:i<7
     ·have hlt2:mon+(i:Int)<mon+7:=by omega
      have on:=b9D hR' i hi7;have k3:IntKind.i64.wrap (mon+(i:Int)-mon)=i:=by rw[show mon+(i:Int)-mon=i from by omega];exact a0i (by omega) (by omega)
      have k4:IntKind.i64.wrap (mon+(i:Int)+1)=mon+i+1:=a0i (by omega) (by omega);have hp:mon+(i:Int)-mon=i:=by omega
      have q5:Rd.a1p (fun d=>isd r.acc (d-mon)) (7-i) (mon+i)=(if isd r.acc i then [mon+(i:Int)] else [])++Rd.a1p (fun d=>isd r.acc (d-mon)) (7-(i+1)) (mon+((i+1:Nat):Int)):=by
       rw[show 7-i=(7-(i+1))+1 from by omega,Rd.a1p,hp,show mon+((i+1:Nat):Int)=mon+i+1 from by omega]
       split <;> simp
      rw[q5] at hu
      cases hb:isd r.acc i
      ·rw[hb] at on hu
       gi_wp2
       refine⟨fun _ h=>(by cases h),?_⟩
       gi_wp2
       go_roundw
       case rel=>exact⟨i+1,pre',by simp;omega,by omega,by simpa using hu,hJ',hR'⟩
       case measure=>simp[intOf];omega
      ·rw[hb] at on hu;obtain⟨fn,tmps,assign,body,hy,hRd⟩:=hY pre' (mon+i) wr hJ' (by rw[hx,<- List.append_assoc,<- hu];simp)
       gi_wp2
       refine hRd.mono ?_;rintro e W3 (⟨rfl,hJ3,hk3⟩|⟨rfl,hJx3⟩)
       ·gi_wp2
        go_roundw
        case rel=>exact⟨i+1,pre'++[mon+(i:Int)],by simp;omega,by omega,by simpa using hu,hJ3,hk3.2.trans hR'⟩
        case measure=>simp[intOf];omega
       ·gi_wp2
        refine bodyPost_ret (results_none rfl _ _ _) rfl ?_;exact⟨⟨_,rfl⟩,.inr ⟨pre'++[mon+(i:Int)],⟨Rd.a1p (fun d=>isd r.acc (d-mon)) (7-(i+1)) (mon+((i+1:Nat):Int))++Rd.a9Y r.acc r.fr r.ev f' (mon+r.ev*7),by rw[hx,<- List.append_assoc,<- List.append_assoc,<- hu];simp⟩,hJx3⟩⟩
     ·have hlt2:¬ mon+(i:Int)<mon+7:=by omega
      have c1:=a3R hR';have e7:i=7:=by omega
      subst e7;simp only[Nat.sub_self,Rd.a1p,List.append_nil] at hu
      gi_wp2
      go_roundw
      case rel=>exact⟨mon+r.ev*7,f',pre',by simp,by rw[hx,hu,List.append_assoc],by omega,by omega,by omega,by omega,hJ',hR'⟩
      case measure=>simp[intOf];omega
  ·have q1:Rd.a9Y r.acc r.fr r.ev f mon=[]:=by cases f <;> simp[Rd.a9Y,hlt]
   rw[q1,List.append_nil] at hx;subst hx
   gi_wp2
   go_end0
   exact⟨⟨_,rfl⟩,.inl hJ⟩
attribute [local go_sem] Oper.semAt_some
theorem a3c{n₀:Nat}{w':World}(h:Tab w)(k:Below n₀ w w')(hn:10<=n₀):Tab w':=by
 obtain⟨a0,a1,a2,a3,a4,a5,a6,a7,a8,a9,a10,a11⟩:=h;refine⟨?_,?_,?_,?_,?_,?_,?_,?_,?_,?_,?_,?_⟩
 all_goals (refine (k.cell (by show 1<n₀;omega)).trans ?_;assumption)
theorem b4V(n:Nat)(hn:1<=n)(l Bn n₀:Nat)(h10:10<=n₀)(r:Rd.a0Y)(hf:Rd.a6s r)(J Jx:List Int->World->Prop)
  (hY:∀ pre x W,J pre W->pre.length<(Rd.b0e (Cal.dT r.fr) r.ev 100 (Cal.yT r.fr) (Cal.mT r.fr)).length->YieldAt Fence.wide (n-1) Tryz.prog l #[.int .i64 x] W fun e W' =>
   (e=.returned (.bool true)/\J (pre++[x]) W'/\RK n₀ Bn W W')\/(e=.returned (.bool false)/\Jx (pre++[x]) W'))
  (W:World) (ht:Tab W) (hr:W.heap[Bn]?=some (a0u r)) (h0:J [] W):
  CallsIn Fence.wide n Tryz.prog 293 #[.func (.yield l) #[] #[],.pointer (some ⟨Bn,0,none⟩)] W fun e W'=>(∃ v,e=.returned v) /\
   ((∃ ys,ys=Rd.b0e (Cal.dT r.fr) r.ev 100 (Cal.yT r.fr) (Cal.mT r.fr)/\J ys W')\/(∃ pre,pre <+: Rd.b0e (Cal.dT r.fr) r.ev 100 (Cal.yT r.fr) (Cal.mT r.fr)/\Jx pre W')):=by
 have c9:=a4m hr;have e1:=hf.e1;have e2:=hf.e2;have f0:=hf.f0;have f1:=hf.f1;clear hf;obtain⟨mo,mn,my,mm⟩:=Rd.a6c f0 f1;obtain⟨g1,g2,g3,g4,g5,g6⟩:=(Cal.a2K _ _ _).1 mo;have HD:Hid (∀ y m d:Int,Cal.ok y m d=true->Cal.num y m d=r.fr->y=Cal.yT r.fr/\m=Cal.mT r.fr/\d=Cal.dT r.fr):=fun y m d h k=>Cal.c4g y m d r.fr h k
 have DA:=a0b (b5w r.fr W ht (by omega) (by omega));clear mo mn g5 g6;generalize hS:Rd.b0e (Cal.dT r.fr) r.ev 100 (Cal.yT r.fr) (Cal.mT r.fr)=S at *;generalize Cal.dT r.fr=dt at *;generalize Cal.yT r.fr=y0 at *;generalize Cal.mT r.fr=m0 at *;refine callsIn_of_wp Tryz.func293 rfl trivial ?_ rfl;simp only[Tryz.ntmps293,List.size_toArray,List.length_cons,List.length_nil,Nat.reduceAdd,Nat.reduceSub,Array.replicate_succ,Array.replicate_zero,List.push_toArray,List.append_toArray,List.nil_append,List.cons_append]
 gi_wp2_with (first
  |((try refine⟨trivial,?_⟩);gi_at_call 116;refine (callsIn_wide.2 DA.out).mono ?_;rintro e w1 ⟨y,m,d,rfl,hok,hnum,rfl⟩;obtain⟨rfl,rfl,rfl⟩:=HD.out y m d hok hnum))
 clear DA HD c9 hok hnum
 gi_loopw [3,4] (fun v u wr=>∃ (y m:Int) (f:Nat) (pre:List Int),v=.int .i64 y/\u=.int .i64 m/\S=pre++Rd.b0e d r.ev f y m/\2024<=y/\y<=2034/\1<=m/\m<=12/\24312<12*y+m+f/\J pre wr/\wr.heap[Bn]?=some (a0u r)/\Tab wr) (fun v u _=>(30000-(12*intOf v+intOf u)).toNat)
 case atStart=>exact⟨y,m,100,[],rfl,rfl,hS.symm,by omega,by omega,by omega,by omega,by omega,h0,hr,ht⟩
 case round =>
  obtain⟨y',m',f,pre,rfl,rfl,hx,a1,a2,a3,a4,a5,hJ,hR,hT⟩:=hrel;clear hr h0 ht;have IR:=a0b (b1Q y' m' wr hT);have hri:=Rd.a8Z (y:=y') (m:=m') a1 (by omega) a3 a4
  by_cases hc:Rd.reached y' m'=true
  ·have hle:=hri.1 hc;obtain⟨f',rfl⟩:∃ f',f=f'+1:=⟨f-1,by omega⟩;have q1:Rd.b0e d r.ev (f'+1) y' m'=Rd.a4s y' m' d++Rd.b0e d r.ev f' (Rd.a4E y' m' r.ev) (Rd.a3J m' r.ev):=by simp[Rd.b0e,hc]
   obtain⟨l1,l2,l3⟩:=Rd.b1N (y:=y') (m:=m') (ev:=r.ev);rw[q1] at hx;rw[hc] at IR
   cases hok:Cal.ok y' m' d
   ·have DY:=a0b (a9O y' m' d wr hT hok);have LA:=a0b (b3g y' m' r.ev wr (by omega) (by omega) a3 a4 e1 e2);have q2:Rd.a4s y' m' d=[]:=by simp[Rd.a4s,hok]
    have c1:=a3R hR;rw[q2,List.nil_append] at hx;clear hri hc q1 q2;generalize Rd.a4E y' m' r.ev=y2 at *;generalize Rd.a3J m' r.ev=m2 at *
    gi_wp2_with (first
     |((try refine⟨trivial,?_⟩);gi_at_call 294;refine (callsIn_wide.2 IR.out).mono ?_;rintro e w1 ⟨rfl,rfl⟩)
     |((try refine⟨trivial,?_⟩);gi_at_call 112;refine (callsIn_wide.2 DY.out).mono ?_;rintro e w1 ⟨rfl,rfl⟩))
    refine⟨fun _ h=>(by cases h),?_⟩
    gi_wp2_with (first
     |((try refine⟨trivial,?_⟩);gi_at_call 295;refine (callsIn_wide.2 LA.out).mono ?_;rintro e w1 ⟨rfl,rfl⟩))
    go_roundw
    case rel=>exact⟨y2,m2,f',pre,rfl,rfl,hx,by omega,by omega,l2,l3,by omega,hJ,hR,hT⟩
    case measure=>simp[intOf];omega
   ·have DY:=a0b (a7P y' m' d wr hT hok);have q2:Rd.a4s y' m' d=[Cal.num y' m' d]:=by simp[Rd.a4s,hok]
    rw[q2] at hx;clear hri hc q1 q2;generalize Cal.num y' m' d=z at *;have LA:=a0b (fun w=>b3g y' m' r.ev w (by omega) (by omega) a3 a4 e1 e2);generalize Rd.a4E y' m' r.ev=y2 at *;generalize Rd.a3J m' r.ev=m2 at *;obtain⟨fn,tmps,assign,body,hy,hRd⟩:=hY pre z wr hJ (by rw[hx];simp)
    gi_wp2_with (first
     |((try refine⟨trivial,?_⟩);gi_at_call 294;refine (callsIn_wide.2 IR.out).mono ?_;rintro e w1 ⟨rfl,rfl⟩)
     |((try refine⟨trivial,?_⟩);gi_at_call 112;refine (callsIn_wide.2 DY.out).mono ?_;rintro e w1 ⟨rfl,rfl⟩))
    refine hRd.mono ?_;rintro e W3 (⟨rfl,hJ3,hk3⟩|⟨rfl,hJx3⟩)
    ·have c1:=a3R (hk3.2.trans hR)
     gi_wp2_with (first
      |((try refine⟨trivial,?_⟩);gi_at_call 295;refine (callsIn_wide.2 (LA.out W3)).mono ?_;rintro e w2 ⟨rfl,rfl⟩))
     go_roundw
     case rel=>exact⟨y2,m2,f',pre++[z],rfl,rfl,by simp[hx],by omega,by omega,l2,l3,by omega,hJ3,hk3.2.trans hR,a3c hT hk3.1 h10⟩
     case measure=>simp[intOf];omega
    ·gi_wp2
     refine bodyPost_ret (results_none rfl _ _ _) rfl ?_;exact⟨⟨_,rfl⟩,.inr ⟨pre++[z],⟨Rd.b0e d r.ev f' y2 m2,by simp[hx]⟩,hJx3⟩⟩
  ·have q1:Rd.b0e d r.ev f y' m'=[]:=by cases f <;> simp[Rd.b0e,hc]
   have hc':Rd.reached y' m'=false:=by simpa using hc
   rw[q1,List.append_nil] at hx;subst hx;rw[hc'] at IR;clear hri q1 hc hc'
   gi_wp2_with (first
    |((try refine⟨trivial,?_⟩);gi_at_call 294;refine (callsIn_wide.2 IR.out).mono ?_;rintro e w1 ⟨rfl,rfl⟩))
   go_end0
   exact⟨⟨_,rfl⟩,.inl ⟨_,rfl,hJ⟩⟩
theorem c1i(r:Rd.a0Y)(w:World):
  Calls Tryz.prog 278 #[a1S r] w fun e w'=>e=.returned (.func (.func 296) #[] #[.pointer (some ⟨w.heap.size,0,none⟩)])/\w'=w.alloc (a0u r):=by
 unfold a1S
 go_enter Tryz.func278,Tryz.ntmps278
 go_wp2_with fail
 exact bodyPost_ret (v:=.func (.func 296) #[] #[.pointer (some ⟨w.heap.size,0,none⟩)]) (by simp[results,Tryz.results278,go_sem]) rfl ⟨rfl,rfl⟩
theorem b7D(r:Rd.a0Y)(w:World):
  Calls Tryz.prog 276 #[a1S r] w fun e w'=>e=.returned (.func (.func 292) #[] #[.pointer (some ⟨w.heap.size,0,none⟩)])/\w'=w.alloc (a0u r):=by
 unfold a1S
 go_enter Tryz.func276,Tryz.ntmps276
 go_wp2_with fail
 exact bodyPost_ret (v:=.func (.func 292) #[] #[.pointer (some ⟨w.heap.size,0,none⟩)]) (by simp[results,Tryz.results276,go_sem]) rfl ⟨rfl,rfl⟩
theorem b4U(r:Rd.a0Y)(w:World):
  Calls Tryz.prog 277 #[a1S r] w fun e w'=>e=.returned (.func (.func 293) #[] #[.pointer (some ⟨w.heap.size,0,none⟩)])/\w'=w.alloc (a0u r):=by
 unfold a1S
 go_enter Tryz.func277,Tryz.ntmps277
 go_wp2_with fail
 exact bodyPost_ret (v:=.func (.func 293) #[] #[.pointer (some ⟨w.heap.size,0,none⟩)]) (by simp[results,Tryz.results277,go_sem]) rfl ⟨rfl,rfl⟩
def itF(r:Rd.a0Y):Nat:=if r.pc=2 then 292 else if r.pc=3 then 293 else 296
theorem a9C(r:Rd.a0Y)(w:World):
  Calls Tryz.prog 249 #[a1S r] w fun e w'=>e=.returned (.func (.func (itF r)) #[] #[.pointer (some ⟨w.heap.size+1,0,none⟩)])/\w'=(w.alloc (a0u r)).alloc (a0u r):=by
 have WK:=a0b (b7D r (w.alloc (a0u r)));have MO:=a0b (b4U r (w.alloc (a0u r)));have DA:=a0b (c1i r (w.alloc (a0u r)));have hr:=World.alloc_heap_new w (a0u r);have hs:(w.alloc (a0u r)).heap.size=w.heap.size+1:=by simp
 have x0:=a7u hr;have x1:=a3R hr;have x2:=a7t hr;have x3:=a7s hr;have x4:=a7r hr;have x5:=a7q hr;have x6:=a7p hr;have x7:=a7o hr;have x8:=a7n hr;have x9:=a4m hr;have x10:=a6E hr;have x11:=a6D hr;have x12:=a6C hr;have x13:=a6B hr;rw[hs] at WK MO DA;clear hr hs;unfold a1S at *;obtain⟨X,hX⟩:∃ X,X=w.alloc (a0u r):=⟨_,rfl⟩;rw[<- hX] at WK MO DA x0 x1 x2 x3 x4 x5 x6 x7 x8 x9 x10 x11 x12 x13;have HX:=a0b hX;clear hX
 by_cases h2:r.pc=2
 ·have hb:(r.pc==2)=true:=by simpa using h2
  have ei:itF r=292:=by unfold itF;rw[if_pos h2]
  rw[ei];clear ei h2
  go_enter Tryz.func249,Tryz.ntmps249
  go_upto_region 1 with fail
  change Code.wp _ _ _ _ (w.alloc (a0u r));rw[<- HX.out]
  go_wp2_with (first
   |(go_at_call 276;refine WK.out.mono ?_;rintro e w1 ⟨rfl,rfl⟩))
  exact bodyPost_ret (v:=.func (.func 292) #[] #[.pointer (some ⟨w.heap.size+1,0,none⟩)]) (by simp[results,Tryz.results249,go_sem]) rfl ⟨rfl,by rw[HX.out]⟩
 ·have hb:(r.pc==2)=false:=by simpa using h2
  by_cases h3:r.pc=3
  ·have hb3:(r.pc==3)=true:=by simpa using h3
   have ei:itF r=293:=by unfold itF;rw[if_neg h2,if_pos h3]
   rw[ei];clear ei h3
   go_enter Tryz.func249,Tryz.ntmps249
   go_upto_region 1 with fail
   change Code.wp _ _ _ _ (w.alloc (a0u r));rw[<- HX.out]
   go_wp2_with (first
    |(go_at_call 277;refine MO.out.mono ?_;rintro e w1 ⟨rfl,rfl⟩))
   exact bodyPost_ret (v:=.func (.func 293) #[] #[.pointer (some ⟨w.heap.size+1,0,none⟩)]) (by simp[results,Tryz.results249,go_sem]) rfl ⟨rfl,by rw[HX.out]⟩
  ·have hb3:(r.pc==3)=false:=by simpa using h3
   have ei:itF r=296:=by unfold itF;rw[if_neg h2,if_neg h3]
   rw[ei];clear ei
   go_enter Tryz.func249,Tryz.ntmps249
   go_upto_region 1 with fail
   change Code.wp _ _ _ _ (w.alloc (a0u r));rw[<- HX.out]
   go_wp2_with (first
    |(go_at_call 278;refine DA.out.mono ?_;rintro e w1 ⟨rfl,rfl⟩))
   exact bodyPost_ret (v:=.func (.func 296) #[] #[.pointer (some ⟨w.heap.size+1,0,none⟩)]) (by simp[results,Tryz.results249,go_sem]) rfl ⟨rfl,by rw[HX.out]⟩
theorem b6P(n:Nat)(hn:1<=n)(Bn n₀:Nat)(h10:10<=n₀)(r:Rd.a0Y)(hf:Rd.a6s r)(w:World)(hB:Bn<w.heap.size)(hn₀:n₀<=w.heap.size)(ht:Tab w)(hr:w.heap[Bn]?=some (a0u r)):
  SeqStopsK Fence.wide n Tryz.prog (itF r) #[.pointer (some ⟨Bn,0,none⟩)] (fun x:Int=>#[Value.int .i64 x]) (RK n₀ Bn) (fun ys=>ys=Rd.seq r) (fun pre=>pre <+: Rd.seq r) (Rd.seq r).length w:=by
 intro l J Jx W hW _ _ hY h0;have hr':W.heap[Bn]?=some (a0u r):=(hW.block Bn hB).trans hr;have ht':Tab W:=a3c ht hW (by omega)
 by_cases h2:r.pc=2
 ·have ei:itF r=292:=by unfold itF;rw[if_pos h2]
  have es:Rd.seq r=Rd.a9Y r.acc r.fr r.ev 800 (r.fr-r.fr % 7):=by unfold Rd.seq;rw[if_pos h2]
  rw[es] at hY ⊢;rw[ei];exact b7E Fence.wide n trivial rfl hn l Bn n₀ r hf J Jx hY W hr' h0
 ·by_cases h3:r.pc=3
  ·have ei:itF r=293:=by unfold itF;rw[if_neg h2,if_pos h3]
   have es:Rd.seq r=Rd.b0e (Cal.dT r.fr) r.ev 100 (Cal.yT r.fr) (Cal.mT r.fr):=by unfold Rd.seq;rw[if_neg h2,if_pos h3]
   rw[es] at hY ⊢;rw[ei];exact b4V n hn l Bn n₀ h10 r hf J Jx hY W ht' hr' h0
  ·have ei:itF r=296:=by unfold itF;rw[if_neg h2,if_neg h3]
   have es:Rd.seq r=Rd.b0f r.ev 800 r.fr:=by unfold Rd.seq;rw[if_neg h2,if_neg h3]
   rw[es] at hY ⊢;rw[ei];exact c1j Fence.wide n trivial rfl hn l Bn n₀ r hf J Jx hY W hr' h0
end Go.Proofs.YtfigmlfdnickmaaGreatDoor
