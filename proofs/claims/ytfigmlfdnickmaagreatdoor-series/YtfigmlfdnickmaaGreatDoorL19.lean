import Derived.Test.YtfigmlfdnickmaaGreatDoorL18
import Derived.Deep.RegionHeld3
import Derived.Deep.AppendLies
set_option maxRecDepth 100000
set_option maxHeartbeats 8000000
variable{s sym x:ByteArray}{B:ByteArray->Bool}{a b:Int}{l:List (Go.Proofs.YtfigmlfdnickmaaGreatDoor.Desk.Ent × Go.Value)}{L:List (Int × Int)}{ps:List (List ByteArray)}{Q R p q ws:List ByteArray}{acc:List Int}{xs:List Go.Value}{e k mm n:Nat}{st:Nat × Bool}{v:Go.Value}{w w':Go.World}
namespace Go.Proofs.YtfigmlfdnickmaaGreatDoor
open Go.RowKit
def d3a(i:Nat):ByteArray:=match i with|0=>⟨#[100,97,105,108,121,32,69,86,69,82,89]⟩|1=>⟨#[119,101,101,107,108,121,32,69,86,69,82,89,32,79,78]⟩|_=>⟨#[109,111,110,116,104,108,121,32,69,86,69,82,89]⟩
def e9S(i:Nat):ByteArray:=match i with|0=>⟨#[116,105,109,101,115,32,69,86,69,82,89]⟩|_=>⟨#[117,110,116,105,108,32,68,65,84,69]⟩
def g4G:ByteArray:=⟨#[32,102,114,111,109,32,68,65,84,69,32,97,116,32,77,73,78,85,84,69,32,102,111,114,32,77,73,78,85,84,69,83,32]⟩
def f3T(ahead:ByteArray)(i k:Nat):ByteArray:=ahead++⟨#[32]⟩++d3a i++g4G++e9S k
def d1g(ahead:ByteArray)(n:Nat):List ByteArray:=(List.range n).map fun j=>f3T ahead (j / 2) (j % 2)
theorem e6w(ahead:ByteArray)(n:Nat):d1g ahead (n+1)=d1g ahead n++[f3T ahead (n / 2) (n % 2)]:=by
 simp[d1g,List.range_succ]
theorem e4y(i:Nat):(d3a i).size<=15:=by unfold d3a;split <;> decide
theorem e9R(i:Nat):(e9S i).size<=11:=by unfold e9S;split <;> decide
theorem d4F(a b:ByteArray)(m n:Nat)(ha:a.size<=m)(hb:b.size<=n):(a++b).size<=m+n:=by
 have:(a++b).size=a.size+b.size:=ByteArray.size_append;omega
theorem e2I(a b:ByteArray)(m n:Nat)(ha:a.size<=m)(hb:b.size<=n)(h:m+n<=1000):∀ wx,(Op.stringOp .add a b).run Tryz.prog wx=.ok (.string (a++b)) wx:=by
 intro wx;apply run_string_add_sum;omega
theorem c9G{base base' size:Nat}(h:w.ownsRow base e size v n xs)(hb:base'<=base):w.ownsRow base' e size v n xs:=by
 refine⟨h.1,?_⟩;rcases h.2 with h0|⟨g,cap,cur,hv,hg,rest⟩
 ·exact .inl h0
 ·exact .inr ⟨g,cap,cur,hv,Nat.le_trans hb hg,rest⟩
theorem e3P(ahead:ByteArray)(w:World)(ha:ahead.size<=20):
  Calls Tryz.prog 185 #[.string ahead] w fun e w'=>∃ v,e=.returned v/\w'.ownsRow w.heap.size 9 1 v 6 ((d1g ahead 6).map Value.string)/\Below w.heap.size w w':=by
 obtain⟨i0,hi0,hz0,hz1,hz2⟩:=info_parts e4B
 go_enter Tryz.func185,Tryz.ntmps185
 go_wp2;obtain⟨W,hW⟩:∃ W,W=(w.alloc (.cells #[.string (d3a 0),.string (d3a 1),.string (d3a 2)] 9)).alloc (.cells #[.string (e9S 0),.string (e9S 1)] 9):=⟨_,rfl⟩;simp only[d3a,e9S] at hW;rw[<- hW];have hB:Below w.heap.size w W:=by rw[hW];exact ((zr _ _).alloc (zq _) _).alloc (by simp) _
 have hZ:w.heap.size+2=W.heap.size:=by rw[hW];simp
 have cK:∀ i,i<3->W.cell? ⟨w.heap.size,i,none⟩=some (.string (d3a i)):=fun i hi=>by
  rw[hW];rcases (show i=0\/i=1\/i=2 by omega) with rfl|rfl|rfl <;> simp[d3a]
 have cE:∀ i,i<2->W.cell? ⟨w.heap.size+1,i,none⟩=some (.string (e9S i)):=fun i hi=>by
  rw[hW];rcases (show i=0\/i=1 by omega) with rfl|rfl <;> simp[e9S]
 have CK:=hide cK;have CE:=hide cE;clear hW cK cE
 go_loopw [3,6,7] (fun v i _ wx=>∃ a:Nat,a<=3/\i=.int .i64 a/\wx.ownsRow (w.heap.size+2) 9 1 v (2*a) ((d1g ahead (2*a)).map Value.string)/\Below (w.heap.size+2) W wx) (fun _ i _ _=>3-(intOf i).toNat)
 case atStart=>exact⟨0,by omega,rfl,World.ownsRow_nil _ _ _ _,Below.refl _ _⟩
 case round =>
  obtain⟨a,hka,rfl,hown,hnx⟩:=hrel
  by_cases hlt:a<3
  ·have i1:(0:Int)<=(a:Int):=Int.natCast_nonneg _;have i2:(a:Int)<3:=by omega
   go_wp2;obtain⟨wo,hwo⟩:∃ wo:World,wo=wr:=⟨_,rfl⟩;rw[<- hwo] at hown hnx ⊢;clear hwo
   go_loopw [3,7] (fun v k wx=>∃ b:Nat,b<=2/\k=.int .i64 b/\wx.ownsRow (w.heap.size+2) 9 1 v (2*a+b) ((d1g ahead (2*a+b)).map Value.string)/\Below (w.heap.size+2) W wx) (fun _ k _=>2-(intOf k).toNat)
   case atStart=>exact⟨0,by omega,rfl,hown,hnx⟩
   case round =>
    obtain⟨b,hkb,rfl,hown2,hnx2⟩:=hrel
    by_cases hlb:b<2
    ·have kz:=e4y a;have ez:=e9R b;have c1:wr.cell? ⟨w.heap.size,a,none⟩=some (.string (d3a a)):=(hnx2.cell (p:=⟨w.heap.size,a,none⟩) (by simp)).trans (a0d CK a hlt);have c2:wr.cell? ⟨w.heap.size+1,b,none⟩=some (.string (e9S b)):=(hnx2.cell (p:=⟨w.heap.size+1,b,none⟩) (by simp)).trans (a0d CE b hlb);have i3:(0:Int)<=(b:Int):=Int.natCast_nonneg _;have i4:(b:Int)<2:=by omega
     have ne1:u3.ownBlock≠some w.heap.size:=fun e=>by have:=d0U hown2 e;omega
     have ne2:u3.ownBlock≠some (w.heap.size+1):=fun e=>by have:=d0U hown2 e;omega
     have hwz:=hnx2.size;have s1:∀ wx,(Op.stringOp .add ahead ⟨#[32]⟩).run Tryz.prog wx=.ok (.string (ahead++⟨#[32]⟩)) wx:=e2I ahead _ 20 1 ha (by decide) (by decide);have s2:∀ wx,(Op.stringOp .add (ahead++⟨#[32]⟩) (d3a a)).run Tryz.prog wx=.ok (.string (ahead++⟨#[32]⟩++d3a a)) wx:=e2I _ _ 21 15 (d4F _ _ 20 1 ha (by decide)) kz (by decide);have s3:∀ wx,(Op.stringOp .add (ahead++⟨#[32]⟩++d3a a) ⟨#[32,102,114,111,109,32,68,65,84,69,32,97,116,32,77,73,78,85,84,69,32,102,111,114,32,77,73,78,85,84,69,83,32]⟩).run Tryz.prog wx=.ok (.string (ahead++⟨#[32]⟩++d3a a++⟨#[32,102,114,111,109,32,68,65,84,69,32,97,116,32,77,73,78,85,84,69,32,102,111,114,32,77,73,78,85,84,69,83,32]⟩)) wx:=e2I _ _ 36 33 (d4F _ _ 21 15 (d4F _ _ 20 1 ha (by decide)) kz) (by decide) (by decide);have s4:∀ wx,(Op.stringOp .add (ahead++⟨#[32]⟩++d3a a++⟨#[32,102,114,111,109,32,68,65,84,69,32,97,116,32,77,73,78,85,84,69,32,102,111,114,32,77,73,78,85,84,69,83,32]⟩) (e9S b)).run Tryz.prog wx=.ok (.string (ahead++⟨#[32]⟩++d3a a++⟨#[32,102,114,111,109,32,68,65,84,69,32,97,116,32,77,73,78,85,84,69,32,102,111,114,32,77,73,78,85,84,69,83,32]⟩++e9S b)) wx:=e2I _ _ 69 11 (d4F _ _ 36 33 (d4F _ _ 21 15 (d4F _ _ 20 1 ha (by decide)) kz) (by decide)) ez (by decide)
     go_wp2_with fail
     go_region_held3 (fun w'=>w'.cell? ⟨w.heap.size,a,none⟩=some (.string (d3a a))/\w'.cell? ⟨w.heap.size+1,b,none⟩=some (.string (e9S b)))
      (first
       |go_keep
       |(
        go_split_ands
        refine⟨?_,?_⟩
        ·(rw[hgrow.cell_far _ (by simp;omega) (Ne.symm ne1)];assumption)
        ·(rw[hgrow.cell_far _ (by simp;omega) (Ne.symm ne2)];assumption)))
      ((refine step_append_lies _ (by rfl) _ _ _ (by rfl) (w.heap.size+2) 9 i0 _ 1 16 Tryz.underlying26 hi0 hz0 hz1 hz2 rfl (by omega) u3 (2*a+b) ((d1g ahead (2*a+b)).map Value.string) (by rfl) ((hown2.alloc _).drew) ⟨wr.heap.size,0,none⟩ 1 1 [.string (ahead++⟨#[32]⟩++d3a a++⟨#[32,102,114,111,109,32,68,65,84,69,32,97,116,32,77,73,78,85,84,69,32,102,111,114,32,77,73,78,85,84,69,83,32]⟩++e9S b)] (by rfl) (by rfl) (World.news_of_block (cs:=#[.string (ahead++⟨#[32]⟩++d3a a++⟨#[32,102,114,111,109,32,68,65,84,69,32,97,116,32,77,73,78,85,84,69,32,102,111,114,32,77,73,78,85,84,69,83,32]⟩++e9S b)]) (t:=9) (fr:=(0,0)) (heap_alloc_new wr _)) (by simp[Value.oneCell']) (by omega) (by unfold maxLen;omega) (by omega) (by simp;omega) (wr.heap.size+1) (by simp) ?_;intro g cap w1 hown1 hgrow hat hltg))
     have hbw:Below (w.heap.size+2) W w1:=by
      first
       |exact ((hnx2.alloc (by omega) _).drew).grown hgrow (by simp;omega) (fun k hk=>d0U hown2 hk)
       |exact (hnx2.alloc (by omega) _).grown hgrow (by simp;omega) (fun k hk=>d0U hown2 hk)
     have HO:Hid (w1.ownsRow (w.heap.size+2) 9 1 (.slice (some ⟨g,0,none⟩) (2*a+b+1) cap) (2*a+(b+1)) ((d1g ahead (2*a+(b+1))).map Value.string)):=by
      show w1.ownsRow _ _ _ _ _ _;rw[show 2*a+(b+1)=2*a+b+1 from by omega,e6w,show (2*a+b) / 2=a from by omega,show (2*a+b) % 2=b from by omega,List.map_append];exact hown1
     clear hown1;go_wp2;refine⟨?_,?_⟩
     ·first|exact⟨b+1,by omega,by go_num,HO.out,hbw⟩|((repeat apply Exists.intro);exact⟨⟨b+1,by omega,by go_num,HO.out,hbw⟩,rfl⟩)
     ·simp[intOf];omega
    ·obtain rfl:b=2:=by omega
     have HO:Hid (wr.ownsRow (w.heap.size+2) 9 1 u3 (2*(a+1)) ((d1g ahead (2*(a+1))).map Value.string)):=by
      show wr.ownsRow _ _ _ _ _ _;rw[show 2*(a+1)=2*a+2 from by omega];exact hown2
     clear hown2;go_wp2;exact⟨⟨a+1,by omega,by go_num,HO.out,hnx2⟩,by simp[intOf];omega⟩
  ·obtain rfl:a=3:=by omega
   go_wp2;go_ret;exact⟨_,rfl,c9G hown (by omega),hB.trans (hnx.mono (by omega))⟩
def f6J:List ByteArray:=[⟨#[116,104,105,110,103,32,78,65,77,69,32,85,78,73,84,83]⟩,⟨#[98,111,111,107,32,78,65,77,69,32,85,78,73,84,83,32,84,73,77,69,32,84,73,77,69]⟩,⟨#[104,111,108,100,32,78,65,77,69,32,85,78,73,84,83,32,84,73,77,69,32,84,73,77,69,32,77,73,78,85,84,69,83]⟩,⟨#[119,97,105,116,32,78,65,77,69,32,85,78,73,84,83,32,84,73,77,69,32,84,73,77,69,32,77,73,78,85,84,69,83]⟩,⟨#[99,111,110,102,105,114,109,32,73,68]⟩,⟨#[99,97,110,99,101,108,32,73,68]⟩,⟨#[108,105,115,116,32,78,65,77,69]⟩,⟨#[108,105,115,116,32,78,65,77,69,32,84,73,77,69,32,84,73,77,69]⟩,⟨#[119,97,105,116,105,110,103]⟩,⟨#[112,101,97,107,32,78,65,77,69,32,84,73,77,69,32,84,73,77,69]⟩,⟨#[102,105,110,100,32,78,65,77,69,32,85,78,73,84,83,32,77,73,78,85,84,69,83,32,84,73,77,69,32,84,73,77,69]⟩,⟨#[116,105,99,107,32,77,73,78,85,84,69,83]⟩,⟨#[99,108,111,99,107]⟩]
def g2X:ByteArray:=⟨#[115,101,114,105,101,115,32,78,65,77,69,32,85,78,73,84,83]⟩
def g3U:ByteArray:=⟨#[101,120,112,97,110,100]⟩
def d4K:List ByteArray:=f6J++d1g g2X 6++d1g g3U 6
theorem c9H{base size:Nat}(h:w.ownsRow base e size v n xs)(hb:Below w.heap.size w w'):w'.ownsRow base e size v n xs:=by
 refine⟨h.1,?_⟩;rcases h.2 with h0|⟨g,cap,cur,hv,hg,hh,rest⟩
 ·exact .inl h0
 ·refine .inr ⟨g,cap,cur,hv,hg,?_,rest⟩
  have:g<w.heap.size:=by
   by_cases hl:g<w.heap.size
   ·exact hl
   ·rw[Array.getElem?_eq_none (by omega)] at hh;cases hh
  rw[hb.block g this];exact hh
theorem d8s{base:Nat}(h:w.ownsRow base e 1 v n xs)(hn:0<n):∃ g cap,v=.slice (some ⟨g,0,none⟩) n cap/\base<=g/\g<w.heap.size/\∀ j u,xs[j]?=some u->w.cell? (Addr.add ⟨g,0,none⟩ j)=some u:=by
 rcases h.2 with ⟨_,h0⟩|⟨g,cap,cur,hv,hg,hh,hc,_,hs,ht⟩
 ·omega
 ·have hl:g<w.heap.size:=by
   by_cases hl:g<w.heap.size
   ·exact hl
   ·rw[Array.getElem?_eq_none (by omega)] at hh;cases hh
  refine⟨g,cap,hv,hg,hl,fun j u hj=>?_⟩
  have ha:Addr.add ⟨g,0,none⟩ j=⟨g,j,none⟩:=by
   unfold Addr.add;split
   ·subst_vars;rfl
   ·simp
  have hjn:j<n:=by
   have h1:=h.1;have:=(List.getElem?_eq_some_iff.1 hj).1;omega
  have hcur:cur[j]?=some u:=by
   rw[<- ht,List.getElem?_take,if_pos (by omega)] at hj
   simpa using hj
  rw[ha];simp[World.cell?,hh,hcur]
theorem e4e(w:World):
  Calls Tryz.prog 124 #[] w fun e w'=>∃ v,e=.returned v/\w'.ownsRow w.heap.size 9 1 v 25 (d4K.map Value.string)/\Below w.heap.size w w':=by
 obtain⟨i0,hi,hz0,hz1,hz2⟩:=info_parts e4B
 go_enter Tryz.func124,Tryz.ntmps124
 go_wp2_with fail
 obtain⟨W,hW⟩:∃ W,W=w.alloc (.cells #[.string ⟨#[116,104,105,110,103,32,78,65,77,69,32,85,78,73,84,83]⟩,.string ⟨#[98,111,111,107,32,78,65,77,69,32,85,78,73,84,83,32,84,73,77,69,32,84,73,77,69]⟩,.string ⟨#[104,111,108,100,32,78,65,77,69,32,85,78,73,84,83,32,84,73,77,69,32,84,73,77,69,32,77,73,78,85,84,69,83]⟩,.string ⟨#[119,97,105,116,32,78,65,77,69,32,85,78,73,84,83,32,84,73,77,69,32,84,73,77,69,32,77,73,78,85,84,69,83]⟩,.string ⟨#[99,111,110,102,105,114,109,32,73,68]⟩,.string ⟨#[99,97,110,99,101,108,32,73,68]⟩,.string ⟨#[108,105,115,116,32,78,65,77,69]⟩,.string ⟨#[108,105,115,116,32,78,65,77,69,32,84,73,77,69,32,84,73,77,69]⟩,.string ⟨#[119,97,105,116,105,110,103]⟩,.string ⟨#[112,101,97,107,32,78,65,77,69,32,84,73,77,69,32,84,73,77,69]⟩,.string ⟨#[102,105,110,100,32,78,65,77,69,32,85,78,73,84,83,32,77,73,78,85,84,69,83,32,84,73,77,69,32,84,73,77,69]⟩,.string ⟨#[116,105,99,107,32,77,73,78,85,84,69,83]⟩,.string ⟨#[99,108,111,99,107]⟩] 9):=⟨_,rfl⟩;rw[<- hW];have hB:Below w.heap.size w W:=by rw[hW];exact (zr _ _).alloc (zq _) _
 have hown:W.ownsRow w.heap.size 9 1 (.slice (some ⟨w.heap.size,0,none⟩) 13 13) 13 (f6J.map Value.string):=by
  refine⟨rfl,.inr ⟨w.heap.size,13,#[.string ⟨#[116,104,105,110,103,32,78,65,77,69,32,85,78,73,84,83]⟩,.string ⟨#[98,111,111,107,32,78,65,77,69,32,85,78,73,84,83,32,84,73,77,69,32,84,73,77,69]⟩,.string ⟨#[104,111,108,100,32,78,65,77,69,32,85,78,73,84,83,32,84,73,77,69,32,84,73,77,69,32,77,73,78,85,84,69,83]⟩,.string ⟨#[119,97,105,116,32,78,65,77,69,32,85,78,73,84,83,32,84,73,77,69,32,84,73,77,69,32,77,73,78,85,84,69,83]⟩,.string ⟨#[99,111,110,102,105,114,109,32,73,68]⟩,.string ⟨#[99,97,110,99,101,108,32,73,68]⟩,.string ⟨#[108,105,115,116,32,78,65,77,69]⟩,.string ⟨#[108,105,115,116,32,78,65,77,69,32,84,73,77,69,32,84,73,77,69]⟩,.string ⟨#[119,97,105,116,105,110,103]⟩,.string ⟨#[112,101,97,107,32,78,65,77,69,32,84,73,77,69,32,84,73,77,69]⟩,.string ⟨#[102,105,110,100,32,78,65,77,69,32,85,78,73,84,83,32,77,73,78,85,84,69,83,32,84,73,77,69,32,84,73,77,69]⟩,.string ⟨#[116,105,99,107,32,77,73,78,85,84,69,83]⟩,.string ⟨#[99,108,111,99,107]⟩],rfl,Nat.le_refl _,?_,Nat.le_refl _,by decide,rfl,rfl⟩⟩;rw[hW];exact heap_alloc_new w _
 clear hW;refine (e3P _ W (by decide)).mono ?_;rintro e w1 ⟨v1,rfl,o1,b1⟩;obtain⟨g1,cap1,rfl,hg1,hl1,hc1⟩:=d8s o1 (by omega);have hown1:=c9H hown b1;have hB1:=hB.trans (b1.mono hB.size);have hS1:=hB1.size;clear o1 hown hB
 go_wp2_with (first
  |(at_builtin;refine wpList_append_own _ rfl _ _ 26 rfl w.heap.size 9 i0 (.string ⟨#[]⟩) 1 16 Tryz.underlying26 hi hz0 hz1 hz2 rfl (by decide) _ 13 (f6J.map Value.string) rfl hown1 ⟨g1,0,none⟩ 6 cap1 ((d1g g2X 6).map Value.string) rfl rfl ?c1 ?c2 ?c3 ?c4 ?c5 ?_))
 case c1=>exact hc1
 case c2=>intro u hu;simp only[List.mem_map] at hu;obtain⟨x,_,rfl⟩:=hu;rfl
 case c3=>decide
 case c4=>decide
 case c5=>exact hS1
 intro v2 w2 hown2 hgrow2 _;have hB2:Below w.heap.size w w2:=hB1.grown hgrow2 hS1 (fun k hk=>d0U hown1 hk);have hS2:=hB2.size;clear hgrow2 hown1
 go_wp2_with fail
 refine (e3P _ w2 (by decide)).mono ?_;rintro e w3 ⟨v3,rfl,o3,b3⟩;obtain⟨g3,cap3,rfl,hg3,hl3,hc3⟩:=d8s o3 (by omega);have hown3:=c9H hown2 b3;have hB3:=hB2.trans (b3.mono hS2);have hS3:=hB3.size;clear o3 hown2
 go_wp2_with (first
  |(at_builtin;refine wpList_append_own _ rfl _ _ 26 rfl w.heap.size 9 i0 (.string ⟨#[]⟩) 1 16 Tryz.underlying26 hi hz0 hz1 hz2 rfl (by decide) v2 (13+6) (f6J.map Value.string++(d1g g2X 6).map Value.string) rfl hown3 ⟨g3,0,none⟩ 6 cap3 ((d1g g3U 6).map Value.string) rfl rfl ?c1 ?c2 ?c3 ?c4 ?c5 ?_))
 case c1=>exact hc3
 case c2=>intro u hu;simp only[List.mem_map] at hu;obtain⟨x,_,rfl⟩:=hu;rfl
 case c3=>decide
 case c4=>decide
 case c5=>exact hS3
 intro v4 w4 hown4 hgrow4 _;have hB4:Below w.heap.size w w4:=hB3.grown hgrow4 hS3 (fun k hk=>d0U hown3 hk)
 have HO:Hid (w4.ownsRow w.heap.size 9 1 v4 25 (d4K.map Value.string)):=by
  show w4.ownsRow _ _ _ _ _ _;rw[d4K,List.map_append,List.map_append];exact hown4
 clear hown4 hgrow4;go_wp2;go_ret;exact⟨v4,rfl,HO.out,hB4⟩
def pre:List ByteArray->List ByteArray->Nat
 |s :: p,w :: ws=>if g2B s w then pre p ws+1 else 0
 |_,_=>0
theorem d8p:∀ (p ws:List ByteArray),pre p ws<=p.length/\pre p ws<=ws.length
 |[],_=>by simp[pre]
 |_ :: _,[]=>by simp[pre]
 |s :: p,w :: ws=>by
  unfold pre;have:=d8p p ws
  split <;> simp <;> omega
theorem e1z:∀ (p ws:List ByteArray)(n:Nat)(h1:n<p.length)(h2:n<ws.length),n<pre p ws->g2B p[n] ws[n]=true
 |[],_,_,h1,_,_=>by simp at h1
 |_ :: _,[],_,_,h2,_=>by simp at h2
 |s :: p,w :: ws,0,_,_,h=>by
  unfold pre at h
  split at h
  ·assumption
  ·omega
 |s :: p,w :: ws,n+1,h1,h2,h=>by
  unfold pre at h
  split at h
  ·exact e1z p ws n (by simpa using h1) (by simpa using h2) (by omega)
  ·omega
theorem e8Y:∀ (p ws:List ByteArray)(n:Nat)(h1:n<p.length)(h2:n<ws.length),n=pre p ws->g2B p[n] ws[n]=false
 |[],_,_,h1,_,_=>by simp at h1
 |_ :: _,[],_,_,h2,_=>by simp at h2
 |s :: p,w :: ws,0,_,_,h=>by
  unfold pre at h
  cases hf:g2B s w
  ·exact hf
  ·rw[if_pos hf] at h;omega
 |s :: p,w :: ws,n+1,h1,h2,h=>by
  unfold pre at h
  split at h
  ·exact e8Y p ws n (by simpa using h1) (by simpa using h2) (by omega)
  ·omega
theorem f8u(h1:n<p.length)(h2:n<ws.length)(hn:n<=pre p ws)(hf:g2B p[n] ws[n]=true):n+1<=pre p ws:=by
 by_cases e:n=pre p ws
 ·have:=e8Y p ws n h1 h2 e;rw[hf] at this;cases this
 ·omega
theorem f8v(h1:n<p.length)(h2:n<ws.length)(hn:n<=pre p ws)(hf:g2B p[n] ws[n]=false):n=pre p ws:=by
 by_cases e:n=pre p ws
 ·exact e
 ·have:=e1z p ws n h1 h2 (by omega);rw[hf] at this;cases this
def scan:List (List ByteArray)->List ByteArray->Nat->Option (List ByteArray) × Nat
 |[],_,m=>(none,m)
 |p :: ps,ws,m=>if pre p ws=p.length/\pre p ws=ws.length then (some p,0) else scan ps ws (if m<pre p ws then pre p ws else m)
def g2n:List (List ByteArray):=d4K.map Txt.a1v
theorem f4m:g2n.length=25:=by simp[g2n,d4K,f6J,d1g]
def g0V(s:ByteArray):Option (List ByteArray) × Nat:=scan g2n (Txt.a1v s) 0
theorem e0i:∀ x∈d4K,x.size<=160:=by
 intro x hx
 have key:∀ a k,(f3T g2X a k).size<=160/\(f3T g3U a k).size<=160:=fun a k=>by
  have h1:=e4y a;have h2:=e9R k;have hm:g4G.size=33:=by decide
  have e1:g2X.size=17:=by decide
  have e2:g3U.size=6:=by decide
  have e3:(⟨#[32]⟩:ByteArray).size=1:=by decide
  unfold f3T;simp only[ByteArray.size_append];omega
 unfold d4K d1g at hx;simp only[List.mem_append,List.mem_map] at hx;rcases hx with (hx|⟨j,_,rfl⟩)|⟨j,_,rfl⟩
 ·revert x;decide
 ·exact (key _ _).1
 ·exact (key _ _).2
theorem d7Q(s:ByteArray):(Txt.a1v s).length<=s.size+1:=by
 rw[Txt.b2t,List.length_append];have:=Txt.b5J s s.size
 split <;> simp <;> omega
structure Row(w:World)(a:Option Addr)(g:Nat)(xs:List ByteArray):Prop where
 at_:0<xs.length->a=some ⟨g,0,none⟩
 cells:∀ (j:Nat) (h:j<xs.length),w.cell? ⟨g,j,none⟩=some (.string xs[j])
theorem Row.later{wx:World}{a:Option Addr}{g:Nat}{xs:List ByteArray}(h:Row w a g xs)(hb:Below w.heap.size w wx):Row wx a g xs :=
 ⟨h.at_,fun j hj=>cell_later hb (h.cells j hj)⟩
theorem e0O{base:Nat}{xs:List ByteArray}(h:w.ownsRow base 9 1 v n (xs.map Value.string))(hn:n=xs.length):∃ a cap g,v=.slice a xs.length cap/\Row w a g xs:=by
 subst hn
 by_cases h0:0<xs.length
 ·obtain⟨g,cap,hv,_,_,hc⟩:=d8s h h0;refine⟨some ⟨g,0,none⟩,cap,g,hv,fun _=>rfl,fun j hj=>?_⟩;have:=hc j (.string xs[j]) (by simp[hj])
  have ha:Addr.add ⟨g,0,none⟩ j=⟨g,j,none⟩:=by
   unfold Addr.add;split
   ·subst_vars;rfl
   ·simp
  rwa [ha] at this
 ·rcases h.2 with ⟨hv,h1⟩|⟨g,cap,cur,hv,_⟩
  ·exact⟨none,0,0,by rw[hv,h1],fun h=>absurd h h0,fun j hj=>absurd hj (by omega)⟩
  ·exact⟨_,cap,g,hv,fun h=>absurd h h0,fun j hj=>absurd hj (by omega)⟩
def boN:Value->Nat
 |.bool true=>1
 |_=>0
theorem f3S(hk:k<d4K.length)(hq:q=Txt.a1v d4K[k])(h:g0V s=scan (g2n.drop k) (Txt.a1v s) mm):
  g0V s=if pre q (Txt.a1v s)=q.length/\pre q (Txt.a1v s)=(Txt.a1v s).length then (some q,0) else scan (g2n.drop (k+1)) (Txt.a1v s) (if mm<pre q (Txt.a1v s) then pre q (Txt.a1v s) else mm):=by
 have hl:k<g2n.length:=by unfold g2n;simpa using hk
 rw[h,List.drop_eq_getElem_cons hl];have e:g2n[k]=q:=by rw[hq];exact List.getElem_map ..
 rw[e,scan]
theorem f8m(hk:25<=k)(h:g0V s=scan (g2n.drop k) (Txt.a1v s) mm):g0V s=(none,mm):=by
 rw[h,List.drop_of_length_le (by rw[f4m];exact hk)];rfl
def RR(s:ByteArray)(w':World)(e:Ending):Prop :=
 (∃ (p:List ByteArray) (a b:Option Addr) (c d g h:Nat),g0V s=(some p,0)/\e=.returned (.tuple #[.slice a (Txt.a1v s).length c,.slice b p.length d,.int .i64 0,.int .i64 0])/\Row w' a g (Txt.a1v s)/\Row w' b h p) \/
 (∃ m:Nat,g0V s=(none,m)/\e=.returned (.tuple #[.slice none 0 0,.slice none 0 0,.int .i64 2,.int .i64 m]))
theorem d4Z(s:ByteArray)(w:World)(hs:s.size<=160):
  Calls Tryz.prog 78 #[.string s] w fun e w'=>RR s w' e/\Below w.heap.size w w':=by
 have hwl:=d7Q s;have hs2:(s.size:Int)<=160:=by omega
 go_enter Tryz.func78,Tryz.ntmps78
 go_wp2_with fail
 refine (e3b s w hs).mono ?_;rintro e w1 ⟨v1,rfl,o1,b1⟩;obtain⟨aw,cw,gw,rfl,rw1⟩:=e0O o1 rfl
 go_wp2_with fail
 refine (e4e w1).mono ?_;rintro e w2 ⟨v2,rfl,o2,b2⟩;obtain⟨ap,cp,gp,rfl,rp2⟩:=e0O o2 (by decide);have rw2:=rw1.later b2;have hB2:=b1.trans (b2.mono b1.size);clear o1 o2 rw1 b1 b2;obtain rfl:=rp2.at_ (by decide);rw[show d4K.length=25 from by decide];go_wp2
 go_loopw [8,9,10,11,12] (fun m i _ _ _ wx=>∃ k mm:Nat,k<=25/\mm<=161/\i=.int .i64 k/\m=.int .i64 mm/\g0V s=scan (g2n.drop k) (Txt.a1v s) mm/\Row wx aw gw (Txt.a1v s)/\Row wx (some ⟨gp,0,none⟩) gp d4K/\Below w.heap.size w wx) (fun _ i _ _ _ _=>25-(intOf i).toNat)
 case atStart=>exact⟨0,0,by omega,by omega,rfl,rfl,rfl,rw2,rp2,hB2⟩
 case round =>
  obtain⟨k,mm,hk,hmm,rfl,rfl,hsc,rw,rp,hnx⟩:=hrel;have HSC:=hide hsc;clear hsc rw2 rp2 hB2
  by_cases hlt:k<25
  ·have hi:(k:Int)<25:=by omega
   have hpl:k<d4K.length:=by rw[show d4K.length=25 from by decide];exact hlt
   have hc:=rp.cells k hpl
   go_wp2_with fail
   refine (e3b _ _ (e0i _ (zg hpl))).mono ?_;rintro e w3 ⟨v3,rfl,o3,b3⟩;obtain⟨ax,cx,gx,rfl,rx⟩:=e0O o3 rfl;have rw3:=rw.later b3;have rp3:=rp.later b3;have hnx3:=hnx.trans (b3.mono hnx.size);obtain⟨q,hq⟩:∃ q,q=Txt.a1v d4K[k]:=⟨_,rfl⟩;rw[<- hq] at rx ⊢;have HQ:=hide hq;have hql:q.length<=161:=by rw[hq];have:=d7Q d4K[k];have:=e0i _ (zg hpl);omega
   clear hq o3 rw rp hnx b3 hc;go_wp2
   go_loopw [11,12] (fun n mo wx=>∃ (n':Nat) (mo':Bool),n=.int .i64 n'/\mo=.bool mo'/\n'<=pre q (Txt.a1v s)/\(mo'=false->n'=pre q (Txt.a1v s))/\Row wx aw gw (Txt.a1v s)/\Row wx (some ⟨gp,0,none⟩) gp d4K/\Row wx ax gx q/\Below w.heap.size w wx) (fun n mo _=>boN mo+(q.length-(intOf n).toNat))
   case atStart=>exact⟨0,true,rfl,rfl,Nat.zero_le _,fun h=>absurd h (by decide),rw3,rp3,rx,hnx3⟩
   case round =>
    obtain⟨n',mo',rfl,rfl,hn,hmo,rwr,rpr,rxr,hbx⟩:=hrel;have hpl2:=d8p q (Txt.a1v s)
    have hcase:(mo'=true/\n'<q.length/\n'<(Txt.a1v s).length)\/mo'=false\/(mo'=true/\¬ n'<q.length)\/(mo'=true/\n'<q.length/\¬ n'<(Txt.a1v s).length):=by
     cases mo'
     ·simp
     ·simp;omega
    have HMO:=hide hmo;clear hmo rw3 rp3 rx hnx3;rcases hcase with ⟨rfl,h1,h2⟩|hex
    ·obtain rfl:=rxr.at_ (by omega);obtain rfl:=rwr.at_ (by omega);have c1:=rxr.cells n' h1;have c2:=rwr.cells n' h2;have j1:(n':Int)<(q.length:Int):=by omega
     have j2:(n':Int)<((Txt.a1v s).length:Int):=by omega
     have j0:(0:Int)<=(n':Int):=Int.natCast_nonneg _;have hsm:(Txt.a1v s)[n'].size<=160:=Nat.le_trans (b4i s _ (zg h2)) hs;have HSM:=hide hsm;clear hsm
     go_wp2_with fail
     go_region_held3 (fun w'=>w'.cell? ⟨gx,n',none⟩=some (.string q[n'])/\w'.cell? ⟨gw,n',none⟩=some (.string (Txt.a1v s)[n']))
      (first
       |go_keep
       |(
        go_split_ands
        refine⟨?_,?_⟩
        ·exact cell_later hbf (by assumption)
        ·exact cell_later hbf (by assumption)))
      ((go_at_call 125;refine (f9e _ _ _ (a0d HSM)).mono ?_;rintro e w4 ⟨rfl,hbf⟩))
     have hbf':Below wr.heap.size wr w4:=⟨hbf.os,hbf.tape,hbf.output,hbf.size,hbf.block⟩;have hbx4:=hbx.trans (hbf'.mono hbx.size);have rw4:=rwr.later hbf';have rp4:=rpr.later hbf';have rx4:=rxr.later hbf'
     cases hf:g2B q[n'] (Txt.a1v s)[n']
     ·have HP:=hide (f8v h1 h2 hn hf);go_wp2;exact⟨⟨n',false,rfl,rfl,hn,fun _=>a0d HP,rw4,rp4,rx4,hbx4⟩,by simp[boN,intOf]⟩
     ·have HP:=hide (f8u h1 h2 hn hf);go_wp2;exact⟨⟨n'+1,true,by go_num,rfl,a0d HP,fun h=>absurd h (by decide),rw4,rp4,rx4,hbx4⟩,by simp[boN,intOf];omega⟩
    ·have hpn:n'=pre q (Txt.a1v s):=by
      rcases hex with h|⟨_,h⟩|⟨_,_,h⟩
      ·exact a0d HMO h
      ·omega
      ·omega
     have HST:=hide (f3S hpl (a0d HQ) (a0d HSC));rw[<- hpn] at HST;clear hpn
     by_cases hfull:n'=q.length/\n'=(Txt.a1v s).length
     ·obtain⟨f1,f2⟩:=hfull;have HR:Hid (g0V s=(some q,0)):=(a0d HST).trans (if_pos ⟨f1,f2⟩);have g1:((n':Int)==(q.length:Int))=true:=beq_iff_eq.2 (by omega);have g2:((n':Int)==((Txt.a1v s).length:Int))=true:=beq_iff_eq.2 (by omega);have F1:=hide f1;have F2:=hide f2;clear f1 f2;rcases hex with rfl|⟨rfl,hx⟩|⟨rfl,hx,hy⟩
      all_goals
       go_wp2
       (try simp only[Exit.inBlock,Exit.then]);refine bodyPost_ret (b2R rfl _ _ _) rfl ?_
       exact⟨.inl ⟨q,aw,ax,cw,cx,gw,gx,HR.out,rfl,rwr,rxr⟩,hbx⟩
     ·have HR:Hid (g0V s=scan (g2n.drop (k+1)) (Txt.a1v s) (if mm<n' then n' else mm)):=(a0d HST).trans (if_neg hfull)
      have hg:((n':Int)==(q.length:Int))=false\/(((n':Int)==(q.length:Int))=true/\((n':Int)==((Txt.a1v s).length:Int))=false):=by
       by_cases e:n'=q.length
       ·right;exact⟨beq_iff_eq.2 (by omega),beq_eq_false_iff_ne.2 (by omega)⟩
       ·left;exact beq_eq_false_iff_ne.2 (by omega)
      clear hfull;have hmx:mm<n'\/¬ mm<n':=by omega
      rcases hex with rfl|⟨rfl,hx⟩|⟨rfl,hx,hy⟩
      all_goals rcases hg with g1|⟨g1,g2⟩
      all_goals rcases hmx with hm|hm
      all_goals
       go_wp2
       first
        |exact⟨⟨k+1,n',by omega,by omega,by go_num,rfl,HR.out.trans (by rw[if_pos hm]),rwr,rpr,hbx⟩,by simp[intOf];omega⟩
        |exact⟨⟨k+1,mm,by omega,by omega,by go_num,rfl,HR.out.trans (by rw[if_neg hm]),rwr,rpr,hbx⟩,by simp[intOf];omega⟩
  ·have HE:=hide (f8m (by omega) (a0d HSC));go_wp2
   (try simp only[Exit.inBlock,Exit.then]);refine bodyPost_ret (b2R rfl _ _ _) rfl ?_
   exact⟨.inr ⟨mm,a0d HE,rfl⟩,hnx⟩
theorem f2O{a b:ByteArray}(h:a=b):Ending.returned (.string a)=.returned (.string b):=by rw[h]
def g2O:Value->Nat
 |.string s=>s.size
 |_=>0
theorem f2P(j:Nat)(t:ByteArray):(⟨#[48]⟩:ByteArray)++Txt.pz j t=Txt.pz (j+1) t:=by
 apply Txt.a7x;rw[Txt.a1X,Txt.e2g,Txt.e2g,List.replicate_succ];rfl
theorem g2o(n:Int)(size:Nat)(w:World)(he:Env w)(h0:0<=n)(h1:n<=9999999)(hs:size<=9):
  Calls Tryz.prog 128 #[.int .i64 n,.int .i64 size] w fun e w'=>e=.returned (.string (Txt.b8V n size))/\Below w.heap.size w w':=by
 have hz:=Txt.a0I n h0 h1;have HE:=hide he;clear he
 go_enter Tryz.func128,Tryz.ntmps128
 go_wp2_with fail
 refine (c2Y n w (a0d HE) (by omega) (by omega)).mono ?_;rintro e w1 ⟨rfl,hb1⟩;go_wp2
 go_loop [5] (fun t=>∃ j:Nat,j<=size-(Txt.a0x n).size/\t=.string (Txt.pz j (Txt.a0x n))) (fun t=>size-g2O t)
 case atStart=>exact⟨0,Nat.zero_le _,rfl⟩
 case round =>
  obtain⟨j,hj,rfl⟩:=hrel;have pzz:=Txt.e2f j (Txt.a0x n);have HZ:=hide pzz;have pb:(Txt.pz j (Txt.a0x n)).size<=20:=by omega
  clear pzz
  by_cases hlt:(Txt.pz j (Txt.a0x n)).size<size
  ·have hlt':((Txt.pz j (Txt.a0x n)).size:Int)<(size:Int):=by omega
   have HN:=hide (f2P j (Txt.a0x n));have HZ2:Hid (((⟨#[48]⟩:ByteArray)++Txt.pz j (Txt.a0x n)).size=1+(Txt.pz j (Txt.a0x n)).size):=ByteArray.size_append;go_wp2
   go_round
   case rel=>exact⟨j+1,by have:=a0d HZ;omega,by rw[a0d HN]⟩
   case measure =>
    have q:=a0d HZ2;show size-((⟨#[48]⟩:ByteArray)++Txt.pz j (Txt.a0x n)).size<size-(Txt.pz j (Txt.a0x n)).size;omega
  ·have hlt':¬ ((Txt.pz j (Txt.a0x n)).size:Int)<(size:Int):=by omega
   have HJ:Hid (Txt.b8V n size=Txt.pz j (Txt.a0x n)):=by
    show Txt.b8V n size=_;unfold Txt.b8V;rw[show size-(Txt.a0x n).size=j from by have:=a0d HZ;omega]
   go_wp2;go_ret;exact⟨f2O (by rw[HJ.out]),hb1⟩
def f4t(y m d:Int):ByteArray:=Txt.b8V y 4++⟨#[45]⟩++Txt.b8V m 2++⟨#[45]⟩++Txt.b8V d 2
def d8f(n:Int):ByteArray:=Txt.b8V (n / 60) 2++⟨#[58]⟩++Txt.b8V (n % 60) 2
def d0L(n:Int):ByteArray:=f4t (Cal.yT n) (Cal.mT n) (Cal.dT n)
def c8H(t:Int):ByteArray:=d0L (t / 1440)++⟨#[47]⟩++d8f (t % 1440)
theorem f6R(a b c:ByteArray):a++b++c=a++(b++c):=by
 apply Txt.a7x;simp only[Txt.a1X,List.append_assoc]
theorem f1E(y m d:Int)(h:Cal.ok y m d=true):(f4t y m d).size<=40:=by
 obtain⟨y1,y2,m1,m2,d1,d2⟩:=(Cal.a2K y m d).1 h;have db:=Cal.b3I y m;have z1:=Txt.d1q y 4 (by omega) (by omega);have z2:=Txt.d1q m 2 (by omega) (by omega);have z3:=Txt.d1q d 2 (by omega) (by omega);have e3:(⟨#[45]⟩:ByteArray).size=1:=by decide
 unfold f4t;simp only[ByteArray.size_append];omega
theorem f3v(n:Int)(h0:0<=n)(h1:n<1440):(d8f n).size<=19:=by
 have z1:=Txt.d1q (n / 60) 2 (by omega) (by omega);have z2:=Txt.d1q (n % 60) 2 (by omega) (by omega);have e3:(⟨#[58]⟩:ByteArray).size=1:=by decide
 unfold d8f;simp only[ByteArray.size_append];omega
theorem f1D(n:Int)(h0:-738885<=n)(h1:n<=2913173):(d0L n).size<=40:=f1E _ _ _ (Cal.c6G n h0 h1).1
def e0s(k:Nat):ByteArray:=⟨(a3C k).toArray⟩
def d5A(acc:List Int):Nat->ByteArray
 |0=>⟨#[]⟩
 |k+1=>if isd acc k then d5A acc k++⟨#[44]⟩++e0s k else d5A acc k
def onT(acc:List Int):ByteArray:=(d5A acc 7).extract 1 (d5A acc 7).size
theorem e4d(k:Nat):(e0s k).size=2:=by
 unfold e0s a3C;split <;> rfl
theorem e0W(acc:List Int):∀ k:Nat,(d5A acc k).size<=3*k
 |0=>zq _
 |k+1=>by
  have ih:=e0W acc k;have n:=e4d k;have e3:(⟨#[44]⟩:ByteArray).size=1:=by decide
  unfold d5A
  split
  ·simp only[ByteArray.size_append];omega
  ·omega
theorem e0V(acc:List Int)(d:Nat)(h:isd acc d=true):∀ k:Nat,d<k->1<=(d5A acc k).size
 |0,hk=>by omega
 |k+1,hk=>by
  have n:=e4d k;unfold d5A
  by_cases e:d=k
  ·subst e;rw[if_pos h];simp only[ByteArray.size_append];omega
  ·have:=e0V acc d h k (by omega)
   split
   ·simp only[ByteArray.size_append];omega
   ·exact this
theorem f0z{d:Int}{r:List Int}(h:Txt.a4D acc d=some r)(hd:d<=6):∃ x:Nat,x<7/\isd r x=true:=by
 unfold Txt.a4D at h
 split at h
 ·rename_i hc
  cases h
  exact⟨d.toNat,by omega,by simp[isd,show ((d.toNat:Nat):Int)=d from by omega]⟩
 ·cases h
theorem e8a:∀ (l:List UInt8)(acc r:List Int),Txt.onC l acc=some r->∃ x:Nat,x<7/\isd r x=true
 |[],_,_,h=>by simp[Txt.onC] at h
 |[_],_,_,h=>by simp[Txt.onC] at h
 |[a,b],acc,r,h=>f0z (acc:=acc) (d:=Txt.wdL [a,b]) h (Txt.c3Q [a,b]).2
 |a :: b :: c :: l,acc,r,h=>by
  unfold Txt.onC at h
  split at h
  ·simp only[Option.bind_eq_some_iff] at h;obtain⟨x,_,h⟩:=h;exact e8a l x r h
  ·cases h
theorem g1e(h:Txt.onW s=some acc):1<=(d5A acc 7).size:=by
 obtain⟨x,hx,hi⟩:=e8a _ _ _ h;exact e0V acc x hi 7 hx
def g0v(w:ByteArray):ByteArray:=match Txt.onW w with|some acc=>onT acc|none=>⟨#[]⟩
def wrS(sym w:ByteArray):ByteArray :=
 if sym.toList==[85,78,73,84,83] then Txt.a0x (b4g w 1 7) else
 if sym.toList==[77,73,78,85,84,69,83] then Txt.a0x (b4g w 1 7) else
 if sym.toList==[69,86,69,82,89] then Txt.a0x (b4g w 1 7) else
 if sym.toList==[73,68] then Txt.a0x (b4g w 1 7) else
 if sym.toList==[84,73,77,69] then c8H (g2T w) else
 if sym.toList==[79,78] then g0v w else w
theorem f4U(w:ByteArray):-1<=b4g w 1 7/\b4g w 1 7<=9999999:=by
 rw[d5I];have:=Txt.a2B w.data.toList
 split <;> omega
theorem f3j(w:ByteArray):-1<=g2T w/\g2T w<=1048320:=by
 unfold g2T
 split
 ·rename_i h
  unfold a0n at h;simp only[Bool.and_eq_true,decide_eq_true_eq] at h;omega
 ·omega
theorem f1n(n:Int)(w:World)(h0:-738885<=n)(h1:n<=2913173):
  Calls Tryz.prog 73 #[.int .i64 n] w fun e w'=>e=.returned (.tuple #[.int .i64 (Cal.yT n),.int .i64 (Cal.mT n),.int .i64 (Cal.dT n),.int .i64 0])/\w'=w:=by
 refine (e6D n w (by omega) (by omega)).mono ?_;rintro e w' ⟨⟨h,_⟩|⟨_,y,m,d,rfl,hok,hnum⟩,rfl⟩
 ·omega
 ·obtain⟨rfl,rfl,rfl⟩:=Cal.c4g y m d n hok hnum;exact⟨rfl,rfl⟩
theorem f3i(t:Int):Txt.b8V (Cal.yT (t / 1440)) 4++⟨#[45]⟩++Txt.b8V (Cal.mT (t / 1440)) 2++⟨#[45]⟩++Txt.b8V (Cal.dT (t / 1440)) 2++⟨#[47]⟩++Txt.b8V (t % 1440 / 60) 2++⟨#[58]⟩++Txt.b8V (t % 60) 2=c8H t:=by
 unfold c8H d0L f4t d8f;rw[show t % 1440 % 60=t % 60 from by omega];simp only[f6R]
theorem d2K(sym w:ByteArray)(W:World)(he:Env W)(hs:w.size<=160)
  (hc:(sym.toList==[85,78,73,84,83])=true\/((sym.toList==[85,78,73,84,83])=false/\(sym.toList==[77,73,78,85,84,69,83])=true)\/((sym.toList==[85,78,73,84,83])=false/\(sym.toList==[77,73,78,85,84,69,83])=false/\(sym.toList==[69,86,69,82,89])=true)\/((sym.toList==[85,78,73,84,83])=false/\(sym.toList==[77,73,78,85,84,69,83])=false/\(sym.toList==[69,86,69,82,89])=false/\(sym.toList==[73,68])=true)):
  Calls Tryz.prog 79 #[.string sym,.string w] W fun e w'=>e=.returned (.string (Txt.a0x (b4g w 1 7)))/\Below W.heap.size W w':=by
 have HE:=hide he;have nb:=f4U w;clear he;rcases hc with c0|⟨c0,c1⟩|⟨c0,c1,c2⟩|⟨c0,c1,c2,c3⟩
 all_goals
  go_enter Tryz.func79,Tryz.ntmps79
  go_wp2_with fail
  refine (b0E w 1 7 W hs (by omega) (by omega)).mono ?_;rintro e w1 ⟨rfl,hb1⟩
  go_wp2_with fail
  refine (c2Y _ w1 ((a0d HE).later hb1) (by omega) (by omega)).mono ?_;rintro e w2 ⟨rfl,hb2⟩;have hbb:=hb1.trans (hb2.mono hb1.size);go_wp2;go_ret;exact⟨rfl,hbb⟩
theorem e1h(sym w:ByteArray)(W:World)
  (c0:(sym.toList==[85,78,73,84,83])=false) (c1:(sym.toList==[77,73,78,85,84,69,83])=false) (c2:(sym.toList==[69,86,69,82,89])=false) (c3:(sym.toList==[73,68])=false) (c4:(sym.toList==[84,73,77,69])=false) (c5:(sym.toList==[79,78])=false):
  Calls Tryz.prog 79 #[.string sym,.string w] W fun e w'=>e=.returned (.string w)/\w'=W:=by
 go_enter Tryz.func79,Tryz.ntmps79
 go_wp2;go_ret;exact⟨rfl,rfl⟩
theorem e2Z(sym w:ByteArray)(W:World)(he:Env W)(hs:w.size<=160)(ht:0<=g2T w)
  (c0:(sym.toList==[85,78,73,84,83])=false) (c1:(sym.toList==[77,73,78,85,84,69,83])=false) (c2:(sym.toList==[69,86,69,82,89])=false) (c3:(sym.toList==[73,68])=false) (c4:(sym.toList==[84,73,77,69])=true):
  Calls Tryz.prog 79 #[.string sym,.string w] W fun e w'=>e=.returned (.string (c8H (g2T w)))/\Below W.heap.size W w':=by
 have HE:=hide he;have tb:=f3j w;have HT:=hide (f3i (g2T w));obtain⟨t,htt⟩:∃ t,t=g2T w:=⟨_,rfl⟩;rw[<- htt] at ht tb HT ⊢;have HTT:=hide htt;clear he htt;have ⟨hok,_⟩:=Cal.c6G (t / 1440) (by omega) (by omega);obtain⟨y1,y2,m1,m2,d1,d2⟩:=(Cal.a2K _ _ _).1 hok;have db:=Cal.b3I (Cal.yT (t / 1440)) (Cal.mT (t / 1440));have z1:=Txt.d1q (Cal.yT (t / 1440)) 4 (by omega) (by omega);have z2:=Txt.d1q (Cal.mT (t / 1440)) 2 (by omega) (by omega);have z3:=Txt.d1q (Cal.dT (t / 1440)) 2 (by omega) (by omega);have z4:=Txt.d1q (t % 1440 / 60) 2 (by omega) (by omega);have z5:=Txt.d1q (t % 60) 2 (by omega) (by omega);clear hok
 go_enter Tryz.func79,Tryz.ntmps79
 go_wp2_with fail
 refine (d0T w W hs).mono ?_;rintro e w1 ⟨rfl,hb1⟩;rw[<- a0d HTT]
 go_wp2_with fail
 refine (f1n (t / 1440) w1 (by omega) (by omega)).mono ?_;rintro e w2 ⟨rfl,rfl⟩;have e1:=hide ((a0d HE).later hb1)
 go_wp2_with fail
 refine (g2o _ 4 _ (a0d e1) (by omega) (by omega) (by omega)).mono ?_;rintro e w3 ⟨rfl,hb3⟩;have e3:=hide ((a0d e1).later hb3)
 go_wp2_with fail
 refine (g2o _ 2 _ (a0d e3) (by omega) (by omega) (by omega)).mono ?_;rintro e w4 ⟨rfl,hb4⟩;have e4:=hide ((a0d e3).later hb4)
 go_wp2_with fail
 refine (g2o _ 2 _ (a0d e4) (by omega) (by omega) (by omega)).mono ?_;rintro e w5 ⟨rfl,hb5⟩;have e5:=hide ((a0d e4).later hb5)
 go_wp2_with fail
 refine (g2o _ 2 _ (a0d e5) (by omega) (by omega) (by omega)).mono ?_;rintro e w6 ⟨rfl,hb6⟩;have e6:=hide ((a0d e5).later hb6)
 go_wp2_with fail
 refine (g2o _ 2 _ (a0d e6) (by omega) (by omega) (by omega)).mono ?_;rintro e w7 ⟨rfl,hb7⟩;have k1:=hb1.trans (hb3.mono hb1.size);have k2:=k1.trans (hb4.mono k1.size);have k3:=k2.trans (hb5.mono k2.size);have k4:=k3.trans (hb6.mono k3.size);have k5:=k4.trans (hb7.mono k4.size);go_wp2;go_ret;exact⟨f2O (a0d HT),k5⟩
theorem f8I(k:Nat)(h:k<7):[Value.string ⟨#[109,111]⟩,Value.string ⟨#[116,117]⟩,Value.string ⟨#[119,101]⟩,Value.string ⟨#[116,104]⟩,Value.string ⟨#[102,114]⟩,Value.string ⟨#[115,97]⟩,Value.string ⟨#[115,117]⟩][k]?=some (.string (e0s k)):=by
 rcases (show k=0\/k=1\/k=2\/k=3\/k=4\/k=5\/k=6 by omega) with rfl|rfl|rfl|rfl|rfl|rfl|rfl <;> rfl
theorem DS.nat{b:Nat}(h:DS w b acc)(k:Nat)(hk:k<7):w.cell? ⟨b,k,none⟩=some (.bool (isd acc k)):=by
 have:=h.at k (by omega) (by omega)
 simpa using this
theorem f0w(sym w:ByteArray)(W:World)(hs:w.size<=160)(ho:Txt.onB w=true)
  (c0:(sym.toList==[85,78,73,84,83])=false) (c1:(sym.toList==[77,73,78,85,84,69,83])=false) (c2:(sym.toList==[69,86,69,82,89])=false) (c3:(sym.toList==[73,68])=false) (c4:(sym.toList==[84,73,77,69])=false) (c5:(sym.toList==[79,78])=true):
  Calls Tryz.prog 79 #[.string sym,.string w] W fun e w'=>e=.returned (.string (g0v w))/\Below W.heap.size W w':=by
 go_enter Tryz.func79,Tryz.ntmps79
 go_wp2_with fail
 refine (g0u w W hs).mono ?_;rintro e w1 ⟨⟨acc,rfl,hacc⟩,hb1⟩;have HA:=hide (hacc ho);have HS:=hide (g1e (a0d HA));have HW:Hid (g0v w=onT acc):=by show g0v w=_;unfold g0v;rw[a0d HA]
 clear hacc;unfold a3E;go_wp2;obtain⟨X,hX⟩:∃ X,X=w1.alloc (.cells #[.bool (isd acc 0),.bool (isd acc 1),.bool (isd acc 2),.bool (isd acc 3),.bool (isd acc 4),.bool (isd acc 5),.bool (isd acc 6)] 159):=⟨_,rfl⟩;rw[<- hX];have hbX:Below W.heap.size W X:=by rw[hX];exact hb1.alloc hb1.size _
 have dX:DS X w1.heap.size acc:=by
  rw[hX];refine⟨?_,?_,?_,?_,?_,?_,?_,fun j=>?_⟩ <;> simp
 have hsz:w1.heap.size+1=X.heap.size:=by rw[hX];simp
 clear hX
 go_loopw [12,13] (fun o i wx=>∃ k:Nat,k<=7/\i=.int .i64 k/\o=.string (d5A acc k)/\DS wx w1.heap.size acc/\Below W.heap.size W wx) (fun _ i _=>7-(intOf i).toNat)
 case atStart=>exact⟨0,by omega,rfl,rfl,dX,hbX⟩
 case round =>
  obtain⟨k,hk,rfl,rfl,dk,hbk⟩:=hrel;have oz:=e0W acc k
  by_cases hlt:k<7
  ·have hi:(k:Int)<7:=by omega
   have hi0:(0:Int)<=(k:Int):=Int.natCast_nonneg _;have hc:=dk.nat k hlt;have hl:([Value.string ⟨#[109,111]⟩,Value.string ⟨#[116,117]⟩,Value.string ⟨#[119,101]⟩,Value.string ⟨#[116,104]⟩,Value.string ⟨#[102,114]⟩,Value.string ⟨#[115,97]⟩,Value.string ⟨#[115,117]⟩][k]'hlt)=.string (e0s k):=Option.some.inj ((List.getElem?_eq_getElem hlt).symm.trans (f8I k hlt));have nz:=e4d k;have nz':(e0s k).size<=2:=by omega
   clear nz;have hstep:d5A acc (k+1)=if isd acc k then d5A acc k++⟨#[44]⟩++e0s k else d5A acc k:=rfl
   have HST:=hide hstep;clear hstep
   cases hm:isd acc k
   ·rw[hm] at hc;have HS2:Hid (d5A acc (k+1)=d5A acc k):=(a0d HST).trans (by rw[hm];rfl);go_wp2;exact⟨⟨k+1,by omega,by go_num,by rw[HS2.out],dk,hbk⟩,by simp[intOf];omega⟩
   ·rw[hm] at hc;have HS2:Hid (d5A acc (k+1)=d5A acc k++⟨#[44]⟩++e0s k):=(a0d HST).trans (by rw[hm];rfl);go_wp2;exact⟨⟨k+1,by omega,by go_num,by rw[HS2.out],dk.later ((zr _ _).alloc (zq _) _),hbk.alloc hbk.size _⟩,by simp[intOf];omega⟩
  ·obtain rfl:k=7:=by omega
   have h1:(1:Int)<=((d5A acc 7).size:Int):=by have:=a0d HS;omega
   go_wp2;go_ret;exact⟨f2O (by rw[HW.out];rfl),hbk⟩
theorem g0N{w:ByteArray}(c0:(sym.toList==[85,78,73,84,83])=false)(c1:(sym.toList==[77,73,78,85,84,69,83])=false)(c2:(sym.toList==[69,86,69,82,89])=false)(c3:(sym.toList==[73,68])=false)(c4:(sym.toList==[84,73,77,69])=false)(c5:(sym.toList==[79,78])=false):wrS sym w=w:=by
 simp[wrS,c0,c1,c2,c3,c4,c5]
theorem e9J{w:ByteArray}(h:(sym.toList==[84,73,77,69])=true)(hf:g2B sym w=true):0<=g2T w:=by
 have e:=beq_iff_eq.1 h;unfold g2B at hf;rw[e] at hf
 simpa using hf
theorem g3v{w:ByteArray}(h:(sym.toList==[79,78])=true)(hf:g2B sym w=true):Txt.onB w=true:=by
 have e:=beq_iff_eq.1 h;unfold g2B at hf;rw[e] at hf
 simpa using hf
theorem d7P(sym w:ByteArray)(W:World)(he:Env W)(hs:w.size<=160)(hf:g2B sym w=true):
  Calls Tryz.prog 79 #[.string sym,.string w] W fun e w'=>e=.returned (.string (wrS sym w))/\Below W.heap.size W w':=by
 cases c0:(sym.toList==[85,78,73,84,83])
 case true =>
  rw[show wrS sym w=Txt.a0x (b4g w 1 7) from by simp[wrS,c0]];exact d2K sym w W he hs (.inl c0)
 cases c1:(sym.toList==[77,73,78,85,84,69,83])
 case true =>
  rw[show wrS sym w=Txt.a0x (b4g w 1 7) from by simp[wrS,c0,c1]];exact d2K sym w W he hs (.inr (.inl ⟨c0,c1⟩))
 cases c2:(sym.toList==[69,86,69,82,89])
 case true =>
  rw[show wrS sym w=Txt.a0x (b4g w 1 7) from by simp[wrS,c0,c1,c2]];exact d2K sym w W he hs (.inr (.inr (.inl ⟨c0,c1,c2⟩)))
 cases c3:(sym.toList==[73,68])
 case true =>
  rw[show wrS sym w=Txt.a0x (b4g w 1 7) from by simp[wrS,c0,c1,c2,c3]];exact d2K sym w W he hs (.inr (.inr (.inr ⟨c0,c1,c2,c3⟩)))
 cases c4:(sym.toList==[84,73,77,69])
 case true =>
  rw[show wrS sym w=c8H (g2T w) from by simp[wrS,c0,c1,c2,c3,c4]];exact e2Z sym w W he hs (e9J c4 hf) c0 c1 c2 c3 c4
 cases c5:(sym.toList==[79,78])
 case true =>
  rw[show wrS sym w=g0v w from by simp[wrS,c0,c1,c2,c3,c4,c5]];exact f0w sym w W hs (g3v c5 hf) c0 c1 c2 c3 c4 c5
 rw[g0N c0 c1 c2 c3 c4 c5];refine (e1h sym w W c0 c1 c2 c3 c4 c5).mono ?_;rintro e w' ⟨rfl,rfl⟩;exact⟨rfl,Below.refl _ _⟩
open Desk (Ent)
structure NV(w:World)(v:Value)(l:List Int):Prop where
 form:∃ a cap,v=.slice a l.length cap
 cell:∀ (k:Nat) (hk:k<l.length),∃ g cap,v=.slice (some ⟨g,0,none⟩) l.length cap/\w.cell? ⟨g,k,none⟩=some (.int .i64 l[k])
theorem NV.later{l:List Int}(h:NV w v l)(k:Below w.heap.size w w'):NV w' v l :=
 ⟨h.form,fun i hi=>by
  obtain⟨g,cap,e,a⟩:=h.cell i hi
  exact⟨g,cap,e,a0a k a⟩⟩
structure SV(w:World)(v:Value)(L:List (Int × Int)):Prop where
 form:∃ a cap,v=.slice a L.length cap
 cell:∀ (k:Nat) (hk:k<L.length),∃ g cap,v=.slice (some ⟨g,0,none⟩) L.length cap/\w.cell? ⟨g,k*2,none⟩=some (.int .i64 L[k].1)/\w.cell? ⟨g,k*2+1,none⟩=some (.int .i64 L[k].2)
theorem SV.later(h:SV w v L)(k:Below w.heap.size w w'):SV w' v L :=
 ⟨h.form,fun i hi=>by
  obtain⟨g,cap,e,a,b⟩:=h.cell i hi
  exact⟨g,cap,e,a0a k a,a0a k b⟩⟩
structure EV(w:World)(v:Value)(l:List (Ent × Value)):Prop where
 form:∃ a cap,v=.slice a l.length cap
 cell:∀ (k:Nat) (hk:k<l.length),∃ g cap,v=.slice (some ⟨g,0,none⟩) l.length cap/\w.cell? ⟨g,k*6,none⟩=some (.int .i64 l[k].1.id)/\w.cell? ⟨g,k*6+1,none⟩=some (.int .i64 l[k].1.kind)/\w.cell? ⟨g,k*6+2,none⟩=some (.string l[k].1.a0k)/\w.cell? ⟨g,k*6+3,none⟩=some (.int .i64 l[k].1.a0c)/\w.cell? ⟨g,k*6+4,none⟩=some l[k].2/\w.cell? ⟨g,k*6+5,none⟩=some (.int .i64 l[k].1.a0Z)
 sp:∀ p∈l,SV w p.2 p.1.a0e
theorem EV.later(h:EV w v l)(k:Below w.heap.size w w'):EV w' v l :=
 ⟨h.form,fun i hi=>by
  obtain⟨g,cap,e,a0,a1,a2,a3,a4,a5⟩:=h.cell i hi
  exact⟨g,cap,e,a0a k a0,a0a k a1,a0a k a2,a0a k a3,a0a k a4,a0a k a5⟩,fun p hp=>(h.sp p hp).later k⟩
namespace Desk
theorem b3t{a b:Int}{x:Ent}:∀ l:List Ent,(c0F a b x l).Perm (x :: l)
 |[]=>by simp[c0F]
 |y :: r=>by
  simp only[c0F]
  split
  ·exact List.Perm.refl _
  ·exact ((b3t r).cons y).trans (List.Perm.swap x y r)
theorem a3Y{a b:Int}:∀ l:List Ent,(b2J a b l).Perm l
 |[]=>List.Perm.refl _
 |x :: r=>(b3t _).trans ((a3Y r).cons x)
end Desk
open Desk (Ent a0r hasB)
theorem SV.own{B:Nat}(h:w.ownsRow B 60 2 v L.length (L.flatMap spV)):SV w v L:=by
 refine⟨a0B h,fun k hk=>?_⟩;obtain⟨g,cap,e⟩:=Joins.ownsRow_form h (by omega);subst e;obtain⟨f1,f2⟩:=b3B k hk;have hl:=b0S L;have a0:=h.cellAt (k*2) (by omega);have a1:=h.cellAt (k*2+1) (by omega);rw[f1] at a0;rw[f2] at a1;exact⟨g,cap,rfl,a0,a1⟩
theorem EV.own{B:Nat}(h:w.ownsRow B 58 6 v l.length (l.flatMap a1f))(sp:∀ p∈l,SV w p.2 p.1.a0e):EV w v l:=by
 refine⟨a0B h,fun k hk=>?_,sp⟩;obtain⟨g,cap,e⟩:=Joins.ownsRow_form h (by omega);subst e
 have at_:∀ j,j<6->w.cell? ⟨g,k*6+j,none⟩=(a1f l[k])[j]?:=fun j hj=>by
  have a0:=h.cellAt (k*6+j) (by omega);rw[a3M hk hj] at a0;exact a0
 exact⟨g,cap,rfl,at_ 0 (by omega),at_ 1 (by omega),at_ 2 (by omega),at_ 3 (by omega),at_ 4 (by omega),at_ 5 (by omega)⟩
namespace Desk
end Desk
namespace Desk
theorem b8H{s:St}{l:a7U}(h:(a0g s l).2.err≠0):(a0g s l).2=Rep.error (a0g s l).2.err:=by
 cases l with
 |a0k name u =>
  simp only[a0g] at h ⊢
  by_cases c1:a0h name s.ts≠0
  ·rw[if_pos c1];rfl
  ·rw[if_neg c1] at h ⊢
   by_cases c2:s.ts.length=4
   ·rw[if_pos c2];rfl
   ·rw[if_neg c2] at h;exact absurd rfl h
 |enter k name u fr til long =>
  simp only[a0g] at h ⊢
  by_cases c:a1M s k name u fr til long≠0
  ·rw[if_pos c];rfl
  ·rw[if_neg c] at h;exact absurd rfl h
 |series name u r =>
  simp only[a0g] at h ⊢
  by_cases c:a2l s name u r≠0
  ·rw[if_pos c];rfl
  ·rw[if_neg c] at h;exact absurd rfl h
 |confirm id =>
  simp only[a0g] at h ⊢
  cases hf:a5S id s.es with
  |none=>rfl
  |some e =>
   rw[hf] at h;simp only at h ⊢
   by_cases c:e.kind≠2
   ·rw[if_pos c];rfl
   ·rw[if_neg c] at h;exact absurd rfl h
 |cancel id =>
  simp only[a0g] at h ⊢
  cases hf:a5S id s.es with
  |none=>rfl
  |some e=>rw[hf] at h;exact absurd rfl h
 |list name fr til =>
  simp only[a0g] at h ⊢
  by_cases c1:a0h name s.ts=0
  ·rw[if_pos c1];rfl
  ·rw[if_neg c1] at h ⊢
   by_cases c2:til<=fr
   ·rw[if_pos c2];rfl
   ·rw[if_neg c2] at h;exact absurd rfl h
 |waiting=>exact absurd rfl h
 |peak name fr til =>
  simp only[a0g] at h ⊢
  by_cases c1:a0h name s.ts=0
  ·rw[if_pos c1];rfl
  ·rw[if_neg c1] at h ⊢
   by_cases c2:til<=fr
   ·rw[if_pos c2];rfl
   ·rw[if_neg c2] at h;exact absurd rfl h
 |find name u long fr til =>
  simp only[a0g] at h ⊢
  by_cases c1:a0S s.ts name u≠0
  ·rw[if_pos c1];rfl
  ·rw[if_neg c1] at h ⊢
   by_cases c2:til<=fr
   ·rw[if_pos c2];rfl
   ·rw[if_neg c2] at h;exact absurd rfl h
 |expand r =>
  simp only[a0g] at h ⊢
  by_cases c:Rd.a6W r≠0
  ·rw[if_pos c];rfl
  ·rw[if_neg c] at h;exact absurd rfl h
 |tick n =>
  simp only[a0g] at h ⊢
  by_cases c:1048320<s.now+n
  ·rw[if_pos c];rfl
  ·rw[if_neg c] at h;exact absurd rfl h
 |clock=>exact absurd rfl h
end Desk
namespace Desk
theorem c3R:∀ (l:List Int)(a b:Int),l.Pairwise (· < ·)->(∀ x∈l,a<=x/\x<=b)->(l.length:Int)<=max 0 (b-a+1)
 |[],_,_,_,_=>by simp;omega
 |x :: r,a,b,hp,hb=>by
  obtain⟨h1,h2⟩:=List.pairwise_cons.1 hp;have hx:=hb x (List.mem_cons_self ..);have:=c3R r (x+1) b h2 (fun y hy=>⟨by have:=h1 y hy;omega,(hb y (List.mem_cons_of_mem _ hy)).2⟩);simp only[List.length_cons];omega
theorem c6C{s:St}(h:Inv s):s.es.length<=60:=by
 have hi:(s.es.map (·.id)).Pairwise (· < ·):=h.ids;have hg:=h.g1
 have:=c3R _ 1 60 hi (fun x hx=>by
  obtain⟨e,he,rfl⟩:=List.mem_map.1 hx;have:=h.idb e he
  omega)
 rw[List.length_map] at this;omega
end Desk
open Desk (Ent St Ids kept a0C a0Q a1C a2e ofB a0y a2c Mid a1H a0z Inv a0h a2x a1q Rep)
def e0k(p ws:List ByteArray):Nat->ByteArray
 |0=>⟨#[]⟩
 |k+1=>(if 0<k then e0k p ws k++⟨#[32]⟩ else e0k p ws k)++wrS (p.getD k ⟨#[]⟩) (ws.getD k ⟨#[]⟩)
theorem f1I(n:Int)(h0:-1<=n)(h:n<=9999999):(Txt.a0x n).size<=160:=by
 by_cases e:n=-1
 ·subst e;decide +kernel
 ·have:=Txt.a0I n (by omega) h;omega
theorem f0H(t:Int)(h0:0<=t)(h1:t<=1048320):(c8H t).size<=160:=by
 have z1:=f1D (t / 1440) (by omega) (by omega);have z2:=f3v (t % 1440) (by omega) (by omega);have e3:(⟨#[47]⟩:ByteArray).size=1:=by decide
 unfold c8H;simp only[ByteArray.size_append];omega
theorem f4w(w:ByteArray):(g0v w).size<=160:=by
 unfold g0v
 split
 ·rename_i acc _
  have:=e0W acc 7;have e:(onT acc).size=min (d5A acc 7).size (d5A acc 7).size-1:=ByteArray.size_extract ..;omega
 ·exact zN _
theorem f2R(sym w:ByteArray)(hs:w.size<=160)(hf:g2B sym w=true):(wrS sym w).size<=160:=by
 have nb:=f4U w;have iz:=f1I (b4g w 1 7) nb.1 nb.2;unfold wrS
 split
 ·exact iz
 ·split
  ·exact iz
  ·split
   ·exact iz
   ·split
    ·exact iz
    ·split
     ·rename_i h;exact f0H _ (e9J h hf) (f3j w).2
     ·split
      ·exact f4w w
      ·exact hs
theorem e3M:∀ (ps:List (List ByteArray))(ws:List ByteArray)(m:Nat)(p:List ByteArray),scan ps ws m=(some p,0)->pre p ws=p.length/\pre p ws=ws.length
 |[],_,_,_,h=>by simp[scan] at h
 |q :: ps,ws,m,p,h=>by
  unfold scan at h
  split at h
  ·rename_i hc;simp at h;subst h;exact hc
  ·exact e3M ps ws _ p h
theorem e4l(p ws:List ByteArray)(hl:pre p ws=p.length)(hl2:pre p ws=ws.length)(hw:∀ x∈ws,x.size<=160):∀ k:Nat,k<=ws.length->(e0k p ws k).size<=161*k
 |0,_=>zq _
 |k+1,hk=>by
  have ih:=e4l p ws hl hl2 hw k (by omega);have hf:=e1z p ws k (by omega) (by omega) (by omega);have e1:p.getD k ⟨#[]⟩=p[k]'(by omega):=by simp[List.getD,show k<p.length by omega]
  have e2:ws.getD k ⟨#[]⟩=ws[k]'(by omega):=by simp[List.getD,show k<ws.length by omega]
  have z:=f2R (p[k]'(by omega)) (ws[k]'(by omega)) (hw _ (zg (by omega))) hf;have e3:(⟨#[32]⟩:ByteArray).size=1:=by decide
  unfold e0k;rw[e1,e2]
  split
  ·simp only[ByteArray.size_append];omega
  ·simp only[ByteArray.size_append];omega
def PR(s:ByteArray)(e:Ending):Prop :=
 (160<s.size/\e=.returned (.tuple #[.string ⟨#[]⟩,.int .i64 1,.int .i64 0])) \/
 (s.size<=160/\((∃ p,g0V s=(some p,0)/\e=.returned (.tuple #[.string (e0k p (Txt.a1v s) (Txt.a1v s).length),.int .i64 0,.int .i64 0])) \/
  (∃ m:Nat,g0V s=(none,m)/\e=.returned (.tuple #[.string ⟨#[]⟩,.int .i64 2,.int .i64 m]))))
theorem d6V(s:ByteArray)(w:World)(hs:160<s.size):
  Calls Tryz.prog 78 #[.string s] w fun e w'=>e=.returned (.tuple #[.slice none 0 0,.slice none 0 0,.int .i64 1,.int .i64 0])/\w'=w:=by
 have hs2:(160:Int)<(s.size:Int):=by omega
 go_enter Tryz.func78,Tryz.ntmps78
 go_wp2
 (try simp only[Exit.inBlock,Exit.then]);refine bodyPost_ret (b2R rfl _ _ _) rfl ?_
 exact⟨rfl,rfl⟩
theorem e3U(s:ByteArray)(w:World)(he:Env w):
  Calls Tryz.prog 55 #[.string s] w fun e w'=>PR s e/\Below w.heap.size w w':=by
 by_cases hs:s.size<=160
 ·have HE:=hide he;clear he
  go_enter Tryz.func55,Tryz.ntmps55
  go_wp2_with fail
  refine (d4Z s w hs).mono ?_;rintro e w1 ⟨hr,hb1⟩;rcases hr with ⟨p,a,b,c,d,g,h,hsc,rfl,ra,rb⟩|⟨m,hsc,rfl⟩
  ·have ⟨l1,l2⟩:=e3M _ _ _ _ hsc;have HSC:=hide hsc;have hws:=d7Q s;have hw:∀ x∈Txt.a1v s,x.size<=160:=fun x hx=>Nat.le_trans (b4i s x hx) hs
   have HOZ:=hide (e4l p (Txt.a1v s) l1 l2 hw);have HW:=hide hw;have L1:=hide l1;have L2:=hide l2;have HPF:=hide (e1z p (Txt.a1v s));clear hsc hw l1 l2;go_wp2
   go_loopw [9,10,11] (fun o i _ wx=>∃ k:Nat,k<=(Txt.a1v s).length/\i=.int .i64 k/\o=.string (e0k p (Txt.a1v s) k)/\Row wx a g (Txt.a1v s)/\Row wx b h p/\Below w.heap.size w wx) (fun _ i _ _=>(Txt.a1v s).length-(intOf i).toNat)
   case atStart=>exact⟨0,Nat.zero_le _,rfl,rfl,ra,rb,hb1⟩
   case round =>
    obtain⟨k,hk,rfl,rfl,rak,rbk,hbk⟩:=hrel;clear ra rb;have oz:=a0d HOZ k hk
    by_cases hlt:k<(Txt.a1v s).length
    ·have hlp:k<p.length:=by have:=a0d L1;have:=a0d L2;omega
     obtain rfl:=rak.at_ (by omega);obtain rfl:=rbk.at_ (by omega);have k1:=rbk.cells k hlp;have k2:=rak.cells k hlt;have j1:(k:Int)<(p.length:Int):=by omega
     have j2:(k:Int)<((Txt.a1v s).length:Int):=by omega
     have j0:(0:Int)<=(k:Int):=Int.natCast_nonneg _;have hsm:(Txt.a1v s)[k].size<=160:=a0d HW _ (zg hlt);have hft:g2B p[k] (Txt.a1v s)[k]=true:=a0d HPF k hlp hlt (by have:=a0d L2;omega);have HSM:=hide hsm;have HFT:=hide hft;have wz:=f2R _ _ hsm hft
     have HST:Hid (e0k p (Txt.a1v s) (k+1)=(if 0<k then e0k p (Txt.a1v s) k++⟨#[32]⟩ else e0k p (Txt.a1v s) k)++wrS p[k] (Txt.a1v s)[k]):=by
      show e0k p (Txt.a1v s) (k+1)=_;rw[e0k,show p.getD k ⟨#[]⟩=p[k] from by simp[List.getD,hlp],show (Txt.a1v s).getD k ⟨#[]⟩=(Txt.a1v s)[k] from by simp[List.getD,hlt]]
     clear hsm hft;have hEk:=hide ((a0d HE).later hbk)
     by_cases hk0:0<k
     ·have j3:(0:Int)<(k:Int):=by omega
      have HS2:Hid (e0k p (Txt.a1v s) (k+1)=e0k p (Txt.a1v s) k++⟨#[32]⟩++wrS p[k] (Txt.a1v s)[k]):=HST.out.trans (by rw[if_pos hk0])
      go_wp2_with fail
      go_region_held3 (fun w'=>w'.cell? ⟨h,k,none⟩=some (.string p[k])/\w'.cell? ⟨g,k,none⟩=some (.string (Txt.a1v s)[k]))
       (first
        |go_keep
        |(
         go_split_ands
         refine⟨?_,?_⟩
         ·exact cell_later hbf (by assumption)
         ·exact cell_later hbf (by assumption)))
       ((go_at_call 79;refine (d7P _ _ _ ?_ (a0d HSM) (a0d HFT)).mono ?_;exact (a0d hEk).later ⟨rfl,rfl,rfl,Nat.le_refl _,fun _ _=>rfl⟩;rintro e w4 ⟨rfl,hbf⟩))
      have hbf':Below wr.heap.size wr w4:=⟨hbf.os,hbf.tape,hbf.output,hbf.size,hbf.block⟩;have hbx4:=hbk.trans (hbf'.mono hbk.size);have ra4:=rak.later hbf';have rb4:=rbk.later hbf';go_wp2;exact⟨⟨k+1,by omega,by go_num,by rw[HS2.out],ra4,rb4,hbx4⟩,by simp[intOf];omega⟩
     ·have j3:¬ (0:Int)<(k:Int):=by omega
      have HS2:Hid (e0k p (Txt.a1v s) (k+1)=e0k p (Txt.a1v s) k++wrS p[k] (Txt.a1v s)[k]):=HST.out.trans (by rw[if_neg hk0])
      go_wp2_with fail
      go_region_held3 (fun w'=>w'.cell? ⟨h,k,none⟩=some (.string p[k])/\w'.cell? ⟨g,k,none⟩=some (.string (Txt.a1v s)[k]))
       (first
        |go_keep
        |(
         go_split_ands
         refine⟨?_,?_⟩
         ·exact cell_later hbf (by assumption)
         ·exact cell_later hbf (by assumption)))
       ((go_at_call 79;refine (d7P _ _ _ ?_ (a0d HSM) (a0d HFT)).mono ?_;exact (a0d hEk).later ⟨rfl,rfl,rfl,Nat.le_refl _,fun _ _=>rfl⟩;rintro e w4 ⟨rfl,hbf⟩))
      have hbf':Below wr.heap.size wr w4:=⟨hbf.os,hbf.tape,hbf.output,hbf.size,hbf.block⟩;have hbx4:=hbk.trans (hbf'.mono hbk.size);have ra4:=rak.later hbf';have rb4:=rbk.later hbf';go_wp2;exact⟨⟨k+1,by omega,by go_num,by rw[HS2.out],ra4,rb4,hbx4⟩,by simp[intOf];omega⟩
    ·obtain rfl:k=(Txt.a1v s).length:=by omega
     go_wp2;go_ret3;exact⟨.inr ⟨hs,.inl ⟨p,a0d HSC,rfl⟩⟩,hbk⟩
  ·have HSC:=hide hsc;clear hsc;go_wp2;go_ret3;exact⟨.inr ⟨hs,.inr ⟨m,a0d HSC,rfl⟩⟩,hb1⟩
 ·go_enter Tryz.func55,Tryz.ntmps55
  go_wp2_with fail
  refine (d6V s w (by omega)).mono ?_;rintro e w1 ⟨rfl,rfl⟩;go_wp2;go_ret3;exact⟨.inl ⟨by omega,rfl⟩,Below.refl _ _⟩
theorem e1r(ws:List ByteArray)(P Q:List (ByteArray->Bool))(st:Nat × Bool):a0M ws (P++Q) st=a0M ws Q (a0M ws P st):=List.foldl_append ..
theorem g1l(ws:List ByteArray)(B:ByteArray->Bool)(n:Nat):stp ws B (n,true)=(n,true):=by simp[stp,tkN,tkW,tkB,a1b]
theorem d4m(ws:List ByteArray):∀ (Bs:List (ByteArray->Bool))(n:Nat),a0M ws Bs (n,true)=(n,true)
 |[],_=>rfl
 |B :: Bs,n=>by
  show a0M ws Bs (stp ws B (n,true))=_;rw[g1l,d4m ws Bs n]
theorem f3F(h:tkB ws n false B=false):stp ws B (n,false)=(n,true):=by
 simp only[stp,tkN,tkW,h,if_false,Bool.false_eq_true]
theorem g0W(h:¬ n<ws.length):tkB ws n false B=false:=by simp[tkB,a1b,h]
theorem g0U(h:B (ws.getD n ByteArray.empty)=false):tkB ws n false B=false:=by simp only[tkB,h,Bool.and_false]
theorem d7C{wr:Bool}(h:tkB ws n wr B=true):wr=false/\n<ws.length/\B (ws.getD n ByteArray.empty)=true:=by
 unfold tkB a1b at h;simp only[Bool.and_eq_true,Bool.not_eq_true',decide_eq_true_eq] at h;exact⟨h.1.1,h.1.2,h.2⟩
theorem e7U(ws:List ByteArray):∀ (p:List ByteArray)(n:Nat),n<=ws.length->a0M ws (p.map g2B) (n,false)=(n+pre p (ws.drop n),decide (pre p (ws.drop n)≠p.length))
 |[],n,_=>by simp[pre,a0M]
 |s :: p,n,hn=>by
  show a0M ws (p.map g2B) (stp ws (g2B s) (n,false))=_
  by_cases hlt:n<ws.length
  ·have hd:ws.drop n=ws[n] :: ws.drop (n+1):=List.drop_eq_getElem_cons hlt;have hg:ws.getD n ByteArray.empty=ws[n]:=a5f ws n hlt
   cases hf:g2B s ws[n]
   ·rw[f3F (g0U (by rw[hg];exact hf)),d4m,hd,pre,hf];simp
   ·rw[c4A hlt (by rw[hg];exact hf),e7U ws p (n+1) hlt,hd,pre,hf];simp only[if_true];refine Prod.ext ?_ ?_
    ·show n+1+_=n+(_+1);omega
    ·simp
  ·rw[f3F (g0W hlt),d4m,List.drop_of_length_le (by omega)];simp[pre]
theorem g1k(ws p:List ByteArray):a0M ws (p.map g2B) (0,false)=(pre p ws,decide (pre p ws≠p.length)):=by
 have:=e7U ws p 0 (zN _)
 simpa using this
theorem e4b{b:Bool}(h:a0M ws (p.map g2B) (0,false)=(n,b)):pre p ws=n:=by
 rw[g1k] at h;exact (Prod.mk.inj h).1
theorem f4z(h:a0M ws (p.map g2B) (0,false)=(n,false)):n=p.length:=by
 rw[g1k] at h;obtain⟨h1,h2⟩:=Prod.mk.inj h;rw[h1] at h2
 by_cases e:n=p.length
 ·exact e
 ·simp[e] at h2
theorem f6K(h:a0M ws (p.map g2B) (0,false)=(n,true)):n<p.length:=by
 have hp:=(d8p p ws).1;rw[g1k] at h;obtain⟨h1,h2⟩:=Prod.mk.inj h;rw[h1] at h2 hp
 by_cases e:n=p.length
 ·simp[e] at h2
 ·omega
theorem g1F(R:List ByteArray)(h:a0M ws (Q.map g2B) (0,false)=(n,true)):pre (Q++R) ws=n:=by
 apply e4b (b:=true);rw[List.map_append,e1r,h,d4m]
theorem g7L(R:List ByteArray)(h:a0M ws (Q.map g2B) (0,false)=(n,false))(hs:tkB ws n false (g2B s)=false):pre (Q++s :: R) ws=n:=by
 apply e4b (b:=true);rw[List.map_append,e1r,h];show a0M ws (R.map g2B) (stp ws (g2B s) (n,false))=_;rw[f3F hs,d4m]
theorem f4n(h:a0M ws ((Q++R).map g2B) (0,false)=(n,false)):a0M ws (Q.map g2B) (0,false)=(Q.length,false):=by
 rw[List.map_append,e1r] at h;obtain⟨m,b,hq⟩:∃ m b,a0M ws (Q.map g2B) (0,false)=(m,b):=⟨_,_,rfl⟩
 cases b
 ·rw[hq,f4z hq]
 ·rw[hq,d4m] at h;cases h
theorem e9K(h:a0M ws ((Q++s :: R).map g2B) (0,false)=(n,false)):tkB ws Q.length false (g2B s)=true:=by
 have hq:=f4n h;rw[List.map_append,e1r,hq] at h
 cases ht:tkB ws Q.length false (g2B s)
 ·have:a0M ws (R.map g2B) (stp ws (g2B s) (Q.length,false))=(n,false):=h;rw[f3F ht,d4m] at this
  cases this
 ·rfl
structure Sum(ps:List (List ByteArray))(ws:List ByteArray)(st:Nat × Bool)(q:List ByteArray):Prop where
 mem:q∈ps
 le:∀ p∈ps,pre p ws<=st.1
 at_:pre q ws=st.1
 bad:st.2=true->∀ p∈ps,¬ (pre p ws=p.length/\pre p ws=ws.length)
 e6J:st.2=false->pre q ws=q.length/\∀ p∈ps,p≠q->¬ (pre p ws=p.length/\pre p ws=ws.length)
theorem e3N:∀ (ps:List (List ByteArray))(ws:List ByteArray)(m M:Nat),(∀ p∈ps,¬ (pre p ws=p.length/\pre p ws=ws.length))->(∀ p∈ps,pre p ws<=M)->m<=M->(m=M\/∃ p∈ps,pre p ws=M)->scan ps ws m=(none,M)
 |[],_,m,M,_,_,_,h=>by
  rcases h with rfl|⟨p,hp,_⟩
  ·rfl
  ·simp at hp
 |p :: ps,ws,m,M,h1,h2,h3,h4=>by
  have hp:=h2 p (List.mem_cons_self ..);rw[scan,if_neg (h1 p (List.mem_cons_self ..))];refine e3N ps ws _ M (fun q hq=>h1 q (List.mem_cons_of_mem _ hq)) (fun q hq=>h2 q (List.mem_cons_of_mem _ hq)) (by split <;> omega) ?_;rcases h4 with rfl|⟨q,hq,e⟩
  ·left;rw[if_neg (by omega)]
  ·rcases List.mem_cons.1 hq with rfl|hq
   ·left;split <;> omega
   ·exact .inr ⟨q,hq,e⟩
theorem e8T:∀ (ps:List (List ByteArray))(ws:List ByteArray)(m:Nat)(q:List ByteArray),q∈ps->pre q ws=q.length/\pre q ws=ws.length->(∀ p∈ps,p≠q->¬ (pre p ws=p.length/\pre p ws=ws.length))->scan ps ws m=(some q,0)
 |[],_,_,_,h,_,_=>by simp at h
 |p :: ps,ws,m,q,h,hf,hn=>by
  rw[scan]
  by_cases e:p=q
  ·subst e;rw[if_pos hf]
  ·rw[if_neg (hn p (List.mem_cons_self ..) e)];rcases List.mem_cons.1 h with h|h
   ·exact absurd h.symm e
   ·exact e8T ps ws _ q h hf (fun r hr=>hn r (List.mem_cons_of_mem _ hr))
theorem Sum.yes(h:Sum ps ws st q)(h2:st.2=false)(hm:a1b ws.length st.1 st.2=false):scan ps ws 0=(some q,0):=by
 obtain⟨g1,g2⟩:=h.e6J h2;have hl:¬ st.1<ws.length:=by simpa[a1b,h2] using hm
 have:=(d8p q ws).2;have:=h.at_;exact e8T ps ws 0 q h.mem ⟨g1,by omega⟩ g2
theorem Sum.no(h:Sum ps ws st q)(hb:st.2=true\/a1b ws.length st.1 st.2=true):scan ps ws 0=(none,st.1):=by
 refine e3N ps ws 0 st.1 ?_ h.le (zN _) (.inr ⟨q,h.mem,h.at_⟩);rcases hb with hb|hb
 ·exact h.bad hb
 ·have hl:=a4q hb;intro p hp e;have:=h.le p hp;omega
theorem d8j(ws:List ByteArray)(f:List ByteArray->Bool):∀ (ps:List (List ByteArray))(m:Nat),(∀ p∈ps,f p=false->pre p ws=0/\p≠[])->scan ps ws m=scan (ps.filter f) ws m
 |[],_,_=>rfl
 |p :: ps,m,h=>by
  have ih:=fun m=>d8j ws f ps m (fun q hq=>h q (List.mem_cons_of_mem _ hq))
  cases hf:f p
  ·obtain⟨h0,hne⟩:=h p (List.mem_cons_self ..) hf;rw[List.filter_cons_of_neg (by simp[hf]),scan,h0,if_neg,if_neg (by omega),ih];rintro ⟨e,_⟩;exact hne (List.length_eq_zero_iff.1 e.symm)
  ·rw[List.filter_cons_of_pos hf,scan,scan,ih]
def c8r:ByteArray:=⟨#[78,65,77,69]⟩
def c8Z:ByteArray:=⟨#[85,78,73,84,83]⟩
def c8M:ByteArray:=⟨#[77,73,78,85,84,69,83]⟩
def e9O:ByteArray:=⟨#[69,86,69,82,89]⟩
def idY:ByteArray:=⟨#[73,68]⟩
def c7X:ByteArray:=⟨#[84,73,77,69]⟩
def g3A:ByteArray:=⟨#[68,65,84,69]⟩
def g1M:ByteArray:=⟨#[77,73,78,85,84,69]⟩
def onY:ByteArray:=⟨#[79,78]⟩
theorem e0g(w:ByteArray)(lo hi:Int)(h:0<=lo):g2m w lo hi=a0K w lo hi:=by
 unfold g2m a0K;rw[d5I]
 cases hn:Txt.isNum w.data.toList
 ·simp;omega
 ·simp
theorem d9O:g2B c8r=nmB:=by
 have c0:(c8r.toList==[78,65,77,69])=true:=by decide +kernel
 funext w;unfold g2B;rw[if_pos c0];rfl
theorem f5O:g2B c8Z=unB:=by
 have c0:¬ (c8Z.toList==[78,65,77,69])=true:=by decide +kernel
 have c1:(c8Z.toList==[85,78,73,84,83])=true:=by decide +kernel
 funext w;unfold g2B;rw[if_neg c0,if_pos c1];exact e0g w 1 9 (by omega)
theorem f9f:g2B c8M=miB:=by
 have c0:¬ (c8M.toList==[78,65,77,69])=true:=by decide +kernel
 have c1:¬ (c8M.toList==[85,78,73,84,83])=true:=by decide +kernel
 have c2:(c8M.toList==[77,73,78,85,84,69,83])=true:=by decide +kernel
 funext w;unfold g2B;rw[if_neg c0,if_neg c1,if_pos c2];exact e0g w 1 1048320 (by omega)
theorem h2U:g2B e9O=evB:=by
 have c0:¬ (e9O.toList==[78,65,77,69])=true:=by decide +kernel
 have c1:¬ (e9O.toList==[85,78,73,84,83])=true:=by decide +kernel
 have c2:¬ (e9O.toList==[77,73,78,85,84,69,83])=true:=by decide +kernel
 have c3:(e9O.toList==[69,86,69,82,89])=true:=by decide +kernel
 funext w;unfold g2B;rw[if_neg c0,if_neg c1,if_neg c2,if_pos c3];exact e0g w 1 99 (by omega)
theorem g4J:g2B idY=idB:=by
 have c0:¬ (idY.toList==[78,65,77,69])=true:=by decide +kernel
 have c1:¬ (idY.toList==[85,78,73,84,83])=true:=by decide +kernel
 have c2:¬ (idY.toList==[77,73,78,85,84,69,83])=true:=by decide +kernel
 have c3:¬ (idY.toList==[69,86,69,82,89])=true:=by decide +kernel
 have c4:(idY.toList==[73,68])=true:=by decide +kernel
 funext w;unfold g2B;rw[if_neg c0,if_neg c1,if_neg c2,if_neg c3,if_pos c4,d5I]
 have:=Txt.a2B w.data.toList;unfold idB
 cases hn:Txt.isNum w.data.toList
 ·simp
 ·simp;omega
theorem f2N:g2B c7X=a0n:=by
 have c0:¬ (c7X.toList==[78,65,77,69])=true:=by decide +kernel
 have c1:¬ (c7X.toList==[85,78,73,84,83])=true:=by decide +kernel
 have c2:¬ (c7X.toList==[77,73,78,85,84,69,83])=true:=by decide +kernel
 have c3:¬ (c7X.toList==[69,86,69,82,89])=true:=by decide +kernel
 have c4:¬ (c7X.toList==[73,68])=true:=by decide +kernel
 have c5:(c7X.toList==[84,73,77,69])=true:=by decide +kernel
 funext w;unfold g2B;rw[if_neg c0,if_neg c1,if_neg c2,if_neg c3,if_neg c4,if_pos c5]
 unfold g2T
 cases ht:a0n w
 ·simp
 ·unfold a0n at ht;simp only[Bool.and_eq_true,decide_eq_true_eq] at ht;simp;omega
theorem h6f:g2B g3A=Txt.a2y:=by
 have c0:¬ (g3A.toList==[78,65,77,69])=true:=by decide +kernel
 have c1:¬ (g3A.toList==[85,78,73,84,83])=true:=by decide +kernel
 have c2:¬ (g3A.toList==[77,73,78,85,84,69,83])=true:=by decide +kernel
 have c3:¬ (g3A.toList==[69,86,69,82,89])=true:=by decide +kernel
 have c4:¬ (g3A.toList==[73,68])=true:=by decide +kernel
 have c5:¬ (g3A.toList==[84,73,77,69])=true:=by decide +kernel
 have c6:(g3A.toList==[68,65,84,69])=true:=by decide +kernel
 funext w;unfold g2B;rw[if_neg c0,if_neg c1,if_neg c2,if_neg c3,if_neg c4,if_neg c5,if_pos c6]
 unfold g2R Txt.a2y;apply decide_eq_decide.2;constructor
 ·intro h
  split at h
  ·rename_i hc;exact⟨hc.1,hc.2.1,h.2⟩
  ·omega
 ·rintro ⟨h1,h2,h3⟩;rw[if_pos ⟨h1,h2,by omega⟩];exact⟨h2,h3⟩
theorem h6T:g2B g1M=Txt.a3a:=by
 have c0:¬ (g1M.toList==[78,65,77,69])=true:=by decide +kernel
 have c1:¬ (g1M.toList==[85,78,73,84,83])=true:=by decide +kernel
 have c2:¬ (g1M.toList==[77,73,78,85,84,69,83])=true:=by decide +kernel
 have c3:¬ (g1M.toList==[69,86,69,82,89])=true:=by decide +kernel
 have c4:¬ (g1M.toList==[73,68])=true:=by decide +kernel
 have c5:¬ (g1M.toList==[84,73,77,69])=true:=by decide +kernel
 have c6:¬ (g1M.toList==[68,65,84,69])=true:=by decide +kernel
 have c7:(g1M.toList==[77,73,78,85,84,69])=true:=by decide +kernel
 funext w;unfold g2B;rw[if_neg c0,if_neg c1,if_neg c2,if_neg c3,if_neg c4,if_neg c5,if_neg c6,if_pos c7]
 have:=Txt.c4W w;unfold c5N
 cases ht:Txt.a3a w
 ·simp
 ·simp;omega
theorem h6S:g2B onY=Txt.onB:=by
 have c0:¬ (onY.toList==[78,65,77,69])=true:=by decide +kernel
 have c1:¬ (onY.toList==[85,78,73,84,83])=true:=by decide +kernel
 have c2:¬ (onY.toList==[77,73,78,85,84,69,83])=true:=by decide +kernel
 have c3:¬ (onY.toList==[69,86,69,82,89])=true:=by decide +kernel
 have c4:¬ (onY.toList==[73,68])=true:=by decide +kernel
 have c5:¬ (onY.toList==[84,73,77,69])=true:=by decide +kernel
 have c6:¬ (onY.toList==[68,65,84,69])=true:=by decide +kernel
 have c7:¬ (onY.toList==[77,73,78,85,84,69])=true:=by decide +kernel
 have c8:(onY.toList==[79,78])=true:=by decide +kernel
 funext w;unfold g2B;rw[if_neg c0,if_neg c1,if_neg c2,if_neg c3,if_neg c4,if_neg c5,if_neg c6,if_neg c7,if_pos c8]
def d1Z(x:ByteArray):Bool:=!(x.toList==[78,65,77,69]) && !(x.toList==[85,78,73,84,83]) && !(x.toList==[77,73,78,85,84,69,83]) && !(x.toList==[69,86,69,82,89]) && !(x.toList==[73,68]) && !(x.toList==[84,73,77,69]) && !(x.toList==[68,65,84,69]) && !(x.toList==[77,73,78,85,84,69]) && !(x.toList==[79,78])
theorem f4g(h:d1Z x=true):(x.toList==[78,65,77,69])=false/\(x.toList==[85,78,73,84,83])=false/\(x.toList==[77,73,78,85,84,69,83])=false/\(x.toList==[69,86,69,82,89])=false/\(x.toList==[73,68])=false/\(x.toList==[84,73,77,69])=false/\(x.toList==[68,65,84,69])=false/\(x.toList==[77,73,78,85,84,69])=false/\(x.toList==[79,78])=false:=by
 unfold d1Z at h;simp only[Bool.and_eq_true,Bool.not_eq_true'] at h;obtain⟨⟨⟨⟨⟨⟨⟨⟨h0,h1⟩,h2⟩,h3⟩,h4⟩,h5⟩,h6⟩,h7⟩,h8⟩:=h;exact⟨h0,h1,h2,h3,h4,h5,h6,h7,h8⟩
theorem g4I(x:ByteArray)(h:d1Z x=true):g2B x=a1s x:=by
 obtain⟨h0,h1,h2,h3,h4,h5,h6,h7,h8⟩:=f4g h
 funext w
 unfold g2B a1s;rw[h0,h1,h2,h3,h4,h5,h6,h7,h8];simp only[Bool.false_eq_true,if_false];exact BEq.comm
theorem f5u(ws:List ByteArray)(n:Nat)(wr:Bool)(x:ByteArray):isB ws n wr x=tkB ws n wr (a1s x):=rfl
theorem d3N(h:isB ws st.1 st.2 x=true):nxt st=stp ws (a1s x) st:=by
 obtain⟨n,wr⟩:=st;have ht:tkB ws n wr (a1s x)=true:=h;simp only[nxt,stp,tkN,tkW,ht,if_true]
end Go.Proofs.YtfigmlfdnickmaaGreatDoor
