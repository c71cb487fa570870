import Derived.Test.YtfigmlfdnickmaaGreatDoorL20
import Derived.Deep.AppendLies
import Derived.BigQuiet
set_option maxRecDepth 100000
set_option maxHeartbeats 8000000
variable{t:ByteArray}{pc:Int}{l:List (Go.Proofs.YtfigmlfdnickmaaGreatDoor.Desk.Ent × Go.Value)}{ks:List (Nat × Go.Obj)}{es:List (Go.Value × List (Go.Proofs.YtfigmlfdnickmaaGreatDoor.Desk.Ent × Go.Value))}{xs:List ByteArray}{acc:List Int}{B b dk i k p:Nat}{cc:Nat->Option (Nat × Go.Proofs.YtfigmlfdnickmaaGreatDoor.Col)}{cl col col':Nat->Option Go.Proofs.YtfigmlfdnickmaaGreatDoor.Col}{o:Go.Obj}{s:Go.Proofs.YtfigmlfdnickmaaGreatDoor.Desk.St}{v:Go.Value}{W W' X:Go.World}
namespace Go.Proofs.YtfigmlfdnickmaaGreatDoor
open Go.RowKit
theorem f2H(ps:List ByteArray)(pc ev:Int)(acc:List Int)(fr mn mi ti un:Int)(w:World)(he:Env w)(hl:ps.length<=3)(f0:0<=fr)(f1:fr<=728)(m0:0<=mn)(m1:mn<1440)(i0:0<=mi)(i1:mi<=9999999)(t0:0<ti)(t1:ti<=9999999)
  (hp:∀ x,Env x->Calls Tryz.prog 338 #[b9E pc ev acc fr mn mi ti un] x fun e w'=>WR x w' ps e):
  Calls Tryz.prog 337 #[b9E pc ev acc fr mn mi ti un] w fun e w'=>WR w w' (ps++e7C fr mn mi++[b2z,Txt.a0x ti]) e:=by
 obtain⟨inf,hi0,hz0,hz1,hz2⟩:=info_parts e4B;simp only[b9E] at hp ⊢
 go_enter Tryz.func337,Tryz.ntmps337
 go_wp2_with fail
 obtain⟨X,hX⟩:∃ X,X=w.alloc (.cells #[.int .i64 pc,.int .i64 ev,.bool (isd acc 0),.bool (isd acc 1),.bool (isd acc 2),.bool (isd acc 3),.bool (isd acc 4),.bool (isd acc 5),.bool (isd acc 6),.int .i64 fr,.int .i64 mn,.int .i64 mi,.int .i64 ti,.int .i64 un] 162):=⟨_,rfl⟩;rw[<- hX];have hbX:Below w.heap.size w X:=by rw[hX];exact (zr _ _).alloc (zq _) _
 have eX:=he.later hbX;have hXs:w.heap.size+1<=X.heap.size:=by rw[hX];simp
 have hXs10:10<=w.heap.size+1:=by have:=he.size;omega
 have x9:X.cell? ⟨w.heap.size,9,none⟩=some (.int .i64 fr):=by rw[hX];simp
 have x10:X.cell? ⟨w.heap.size,10,none⟩=some (.int .i64 mn):=by rw[hX];simp
 have x11:X.cell? ⟨w.heap.size,11,none⟩=some (.int .i64 mi):=by rw[hX];simp
 have x12:X.cell? ⟨w.heap.size,12,none⟩=some (.int .i64 ti):=by rw[hX];simp
 have x13:X.cell? ⟨w.heap.size,13,none⟩=some (.int .i64 un):=by rw[hX];simp
 clear hX he;refine (hp X eX).mono ?_;rintro e w1 ⟨v1,rfl,ho1,hb1⟩;clear hp;have bX:Below (w.heap.size+1) X w1:=hb1.mono hXs;have hs1:=bX.size;have y9:=(bX.cell (p:=⟨w.heap.size,9,none⟩) (by simp)).trans x9;have y10:=(bX.cell (p:=⟨w.heap.size,10,none⟩) (by simp)).trans x10;have y11:=(bX.cell (p:=⟨w.heap.size,11,none⟩) (by simp)).trans x11;have y12:=(bX.cell (p:=⟨w.heap.size,12,none⟩) (by simp)).trans x12;have y13:=(bX.cell (p:=⟨w.heap.size,13,none⟩) (by simp)).trans x13;have hoN:=c9G (base':=w.heap.size+1) ho1 hXs;clear ho1 hb1
 go_wp2_with fail
 have hoN:=hoN.drew
 go_region_held3 (fun w'=>Below (w.heap.size+1) X w'/\w'.cell? ⟨w.heap.size,9,none⟩=some (.int .i64 fr)/\w'.cell? ⟨w.heap.size,10,none⟩=some (.int .i64 mn)/\w'.cell? ⟨w.heap.size,11,none⟩=some (.int .i64 mi)/\w'.cell? ⟨w.heap.size,12,none⟩=some (.int .i64 ti)/\w'.cell? ⟨w.heap.size,13,none⟩=some (.int .i64 un))
  (first
   |(go_split_ands;exact d6L (c8V hXs (by assumption) hbf) (fun hk=>⟨(hk.cell (p:=⟨w.heap.size,9,none⟩) (by simp)).trans x9,(hk.cell (p:=⟨w.heap.size,10,none⟩) (by simp)).trans x10,(hk.cell (p:=⟨w.heap.size,11,none⟩) (by simp)).trans x11,(hk.cell (p:=⟨w.heap.size,12,none⟩) (by simp)).trans x12,(hk.cell (p:=⟨w.heap.size,13,none⟩) (by simp)).trans x13⟩))
   |(go_split_ands;exact d6L (c8V hXs (by assumption) ((zr _ _).alloc (zq _) _)) (fun hk=>⟨(hk.cell (p:=⟨w.heap.size,9,none⟩) (by simp)).trans x9,(hk.cell (p:=⟨w.heap.size,10,none⟩) (by simp)).trans x10,(hk.cell (p:=⟨w.heap.size,11,none⟩) (by simp)).trans x11,(hk.cell (p:=⟨w.heap.size,12,none⟩) (by simp)).trans x12,(hk.cell (p:=⟨w.heap.size,13,none⟩) (by simp)).trans x13⟩))
   |(go_split_ands;exact d6L (c8V hXs (by assumption) (c7Y _)) (fun hk=>⟨(hk.cell (p:=⟨w.heap.size,9,none⟩) (by simp)).trans x9,(hk.cell (p:=⟨w.heap.size,10,none⟩) (by simp)).trans x10,(hk.cell (p:=⟨w.heap.size,11,none⟩) (by simp)).trans x11,(hk.cell (p:=⟨w.heap.size,12,none⟩) (by simp)).trans x12,(hk.cell (p:=⟨w.heap.size,13,none⟩) (by simp)).trans x13⟩))
   |(go_split_ands;exact d6L (Below.grown (by assumption) hgrow (by simp;omega) (fun k hk=>d0U hoN hk)) (fun hk=>⟨(hk.cell (p:=⟨w.heap.size,9,none⟩) (by simp)).trans x9,(hk.cell (p:=⟨w.heap.size,10,none⟩) (by simp)).trans x10,(hk.cell (p:=⟨w.heap.size,11,none⟩) (by simp)).trans x11,(hk.cell (p:=⟨w.heap.size,12,none⟩) (by simp)).trans x12,(hk.cell (p:=⟨w.heap.size,13,none⟩) (by simp)).trans x13⟩)))
  (first
   |(
    go_at_call 331
    go_split_ands
    refine (d3R _ _ (eX.of10 hXs10 (by assumption)) (by omega) (by omega)).mono ?_;rintro e w5 ⟨rfl,hbf⟩;have hs5:=d1E (B:=w.heap.size+1) (x:=X) (by assumption) hbf
    have hoN:=c9H hoN hbf)
   |(
    go_at_call 332
    go_split_ands
    refine (d2S _ _ (eX.of10 hXs10 (by assumption)) (by omega) (by omega)).mono ?_;rintro e w5 ⟨rfl,hbf⟩;have hs5:=d1E (B:=w.heap.size+1) (x:=X) (by assumption) hbf
    have hoN:=c9H hoN hbf)
   |(
    go_at_call 327
    go_split_ands
    refine (d0r _ _ (eX.of10 hXs10 (by assumption)) (by omega) (by omega)).mono ?_;rintro e w5 ⟨rfl,hbf⟩;have hs5:=d1E (B:=w.heap.size+1) (x:=X) (by assumption) hbf
    have hoN:=c9H hoN hbf)
   |((refine step_append_lies _ (by rfl) _ _ _ (by rfl) (w.heap.size+1) 9 inf _ 1 16 Tryz.underlying26 hi0 hz0 hz1 hz2 rfl (by omega) v1 ps.length (ps.map Value.string) (by rfl) (hoN.alloc _) ⟨w5.heap.size,0,none⟩ 6 6 [.string a1t,.string (d0L fr),.string atW,.string (d8f mn),.string b3z,.string (Txt.a0x mi)] (by rfl) (by rfl) (World.news_of_block (cs:=#[.string a1t,.string (d0L fr),.string atW,.string (d8f mn),.string b3z,.string (Txt.a0x mi)]) (t:=9) (fr:=(0,0)) (heap_alloc_new _ _)) (by simp[Value.oneCell']) (by omega) (by unfold maxLen;omega) (by omega) (by simp;omega) (w5.heap.size+1) (by simp) ?_;intro g cap w6 hown6 hgrow hat hltg)))
 go_split_ands
 have hbE:Below (w.heap.size+1) X w6:=by assumption
 have hs6:=hbE.size;obtain⟨ys,hys⟩:∃ ys:List Value,ys=List.map Value.string ps++[Value.string a1t,Value.string (d0L fr),Value.string atW,Value.string (d8f mn),Value.string b3z,Value.string (Txt.a0x mi)]:=⟨_,rfl⟩;rw[<- hys] at hown6;have HYS:=hide hys;clear hys hgrow hat
 go_wp2_with fail
 refine (d0r ti w6 (eX.of10 hXs10 hbE) (by omega) (by omega)).mono ?_;rintro e w7 ⟨rfl,hb7⟩;have hoM:=c9H hown6 hb7;have hb67:Below (w.heap.size+1) X w7:=c8V hXs hbE hb7;have hs7:=hb67.size;clear hown6
 go_wp2_with (first
  |(at_builtin;refine wpList_append_own _ rfl _ _ 26 rfl (w.heap.size+1) 9 inf (.string ⟨#[]⟩) 1 16 Tryz.underlying26 hi0 hz0 hz1 hz2 rfl (by decide) _ _ _ rfl (hoM.alloc _) ⟨w7.heap.size,0,none⟩ 2 2 [.string b2z,.string (Txt.a0x ti)] rfl rfl ?c1 ?c2 ?c3 ?c4 ?c5 ?_))
 case c1=>exact World.news_of_block (cs:=#[.string b2z,.string (Txt.a0x ti)]) (heap_alloc_new w7 _)
 case c2=>simp[Value.oneCell']
 case c3=>unfold maxLen;omega
 case c4=>omega
 case c5=>simp;omega
 intro v8 w8 hown8 hgrow _;have hbG:Below (w.heap.size+1) X w8:=(hb67.alloc (by omega) _).grown hgrow (by simp;omega) (fun k hk=>d0U hoM hk);have HBG:=hide hbG;have HOW:=hide hown8;clear hbG hgrow hown8;go_wp2;go_ret;refine⟨_,rfl,?_,hbX.trans (HBG.out.mono (by omega))⟩;have h9:=c9G (base':=w.heap.size) HOW.out (by omega);rw[HYS.out] at h9;have e1:(ps++e7C fr mn mi++[b2z,Txt.a0x ti]).length=ps.length+6+2:=by simp[e7C]
 have e2:(ps++e7C fr mn mi++[b2z,Txt.a0x ti]).map Value.string=List.map Value.string ps++[Value.string a1t,Value.string (d0L fr),Value.string atW,Value.string (d8f mn),Value.string b3z,Value.string (Txt.a0x mi)]++[.string b2z,.string (Txt.a0x ti)]:=by simp[e7C]
 rw[e1,e2];exact h9
theorem f2G(ps:List ByteArray)(pc ev:Int)(acc:List Int)(fr mn mi un:Int)(w:World)(he:Env w)(hl:ps.length<=3)(f0:0<=fr)(f1:fr<=728)(m0:0<=mn)(m1:mn<1440)(i0:0<=mi)(i1:mi<=9999999)(t0:0<=un)(t1:un<=728)
  (hp:∀ x,Env x->Calls Tryz.prog 338 #[b9E pc ev acc fr mn mi 0 un] x fun e w'=>WR x w' ps e):
  Calls Tryz.prog 337 #[b9E pc ev acc fr mn mi 0 un] w fun e w'=>WR w w' (ps++e7C fr mn mi++[b5O,d0L un]) e:=by
 obtain⟨inf,hi0,hz0,hz1,hz2⟩:=info_parts e4B;simp only[b9E] at hp ⊢
 go_enter Tryz.func337,Tryz.ntmps337
 go_wp2_with fail
 obtain⟨X,hX⟩:∃ X,X=w.alloc (.cells #[.int .i64 pc,.int .i64 ev,.bool (isd acc 0),.bool (isd acc 1),.bool (isd acc 2),.bool (isd acc 3),.bool (isd acc 4),.bool (isd acc 5),.bool (isd acc 6),.int .i64 fr,.int .i64 mn,.int .i64 mi,.int .i64 0,.int .i64 un] 162):=⟨_,rfl⟩;rw[<- hX];have hbX:Below w.heap.size w X:=by rw[hX];exact (zr _ _).alloc (zq _) _
 have eX:=he.later hbX;have hXs:w.heap.size+1<=X.heap.size:=by rw[hX];simp
 have hXs10:10<=w.heap.size+1:=by have:=he.size;omega
 have x9:X.cell? ⟨w.heap.size,9,none⟩=some (.int .i64 fr):=by rw[hX];simp
 have x10:X.cell? ⟨w.heap.size,10,none⟩=some (.int .i64 mn):=by rw[hX];simp
 have x11:X.cell? ⟨w.heap.size,11,none⟩=some (.int .i64 mi):=by rw[hX];simp
 have x12:X.cell? ⟨w.heap.size,12,none⟩=some (.int .i64 0):=by rw[hX];simp
 have x13:X.cell? ⟨w.heap.size,13,none⟩=some (.int .i64 un):=by rw[hX];simp
 clear hX he;refine (hp X eX).mono ?_;rintro e w1 ⟨v1,rfl,ho1,hb1⟩;clear hp;have bX:Below (w.heap.size+1) X w1:=hb1.mono hXs;have hs1:=bX.size;have y9:=(bX.cell (p:=⟨w.heap.size,9,none⟩) (by simp)).trans x9;have y10:=(bX.cell (p:=⟨w.heap.size,10,none⟩) (by simp)).trans x10;have y11:=(bX.cell (p:=⟨w.heap.size,11,none⟩) (by simp)).trans x11;have y12:=(bX.cell (p:=⟨w.heap.size,12,none⟩) (by simp)).trans x12;have y13:=(bX.cell (p:=⟨w.heap.size,13,none⟩) (by simp)).trans x13;have hoN:=c9G (base':=w.heap.size+1) ho1 hXs;clear ho1 hb1
 go_wp2_with fail
 have hoN:=hoN.drew
 go_region_held3 (fun w'=>Below (w.heap.size+1) X w'/\w'.cell? ⟨w.heap.size,9,none⟩=some (.int .i64 fr)/\w'.cell? ⟨w.heap.size,10,none⟩=some (.int .i64 mn)/\w'.cell? ⟨w.heap.size,11,none⟩=some (.int .i64 mi)/\w'.cell? ⟨w.heap.size,12,none⟩=some (.int .i64 0)/\w'.cell? ⟨w.heap.size,13,none⟩=some (.int .i64 un))
  (first
   |(go_split_ands;exact d6L (c8V hXs (by assumption) hbf) (fun hk=>⟨(hk.cell (p:=⟨w.heap.size,9,none⟩) (by simp)).trans x9,(hk.cell (p:=⟨w.heap.size,10,none⟩) (by simp)).trans x10,(hk.cell (p:=⟨w.heap.size,11,none⟩) (by simp)).trans x11,(hk.cell (p:=⟨w.heap.size,12,none⟩) (by simp)).trans x12,(hk.cell (p:=⟨w.heap.size,13,none⟩) (by simp)).trans x13⟩))
   |(go_split_ands;exact d6L (c8V hXs (by assumption) ((zr _ _).alloc (zq _) _)) (fun hk=>⟨(hk.cell (p:=⟨w.heap.size,9,none⟩) (by simp)).trans x9,(hk.cell (p:=⟨w.heap.size,10,none⟩) (by simp)).trans x10,(hk.cell (p:=⟨w.heap.size,11,none⟩) (by simp)).trans x11,(hk.cell (p:=⟨w.heap.size,12,none⟩) (by simp)).trans x12,(hk.cell (p:=⟨w.heap.size,13,none⟩) (by simp)).trans x13⟩))
   |(go_split_ands;exact d6L (c8V hXs (by assumption) (c7Y _)) (fun hk=>⟨(hk.cell (p:=⟨w.heap.size,9,none⟩) (by simp)).trans x9,(hk.cell (p:=⟨w.heap.size,10,none⟩) (by simp)).trans x10,(hk.cell (p:=⟨w.heap.size,11,none⟩) (by simp)).trans x11,(hk.cell (p:=⟨w.heap.size,12,none⟩) (by simp)).trans x12,(hk.cell (p:=⟨w.heap.size,13,none⟩) (by simp)).trans x13⟩))
   |(go_split_ands;exact d6L (Below.grown (by assumption) hgrow (by simp;omega) (fun k hk=>d0U hoN hk)) (fun hk=>⟨(hk.cell (p:=⟨w.heap.size,9,none⟩) (by simp)).trans x9,(hk.cell (p:=⟨w.heap.size,10,none⟩) (by simp)).trans x10,(hk.cell (p:=⟨w.heap.size,11,none⟩) (by simp)).trans x11,(hk.cell (p:=⟨w.heap.size,12,none⟩) (by simp)).trans x12,(hk.cell (p:=⟨w.heap.size,13,none⟩) (by simp)).trans x13⟩)))
  (first
   |(
    go_at_call 331
    go_split_ands
    refine (d3R _ _ (eX.of10 hXs10 (by assumption)) (by omega) (by omega)).mono ?_;rintro e w5 ⟨rfl,hbf⟩;have hs5:=d1E (B:=w.heap.size+1) (x:=X) (by assumption) hbf
    have hoN:=c9H hoN hbf)
   |(
    go_at_call 332
    go_split_ands
    refine (d2S _ _ (eX.of10 hXs10 (by assumption)) (by omega) (by omega)).mono ?_;rintro e w5 ⟨rfl,hbf⟩;have hs5:=d1E (B:=w.heap.size+1) (x:=X) (by assumption) hbf
    have hoN:=c9H hoN hbf)
   |(
    go_at_call 327
    go_split_ands
    refine (d0r _ _ (eX.of10 hXs10 (by assumption)) (by omega) (by omega)).mono ?_;rintro e w5 ⟨rfl,hbf⟩;have hs5:=d1E (B:=w.heap.size+1) (x:=X) (by assumption) hbf
    have hoN:=c9H hoN hbf)
   |((refine step_append_lies _ (by rfl) _ _ _ (by rfl) (w.heap.size+1) 9 inf _ 1 16 Tryz.underlying26 hi0 hz0 hz1 hz2 rfl (by omega) v1 ps.length (ps.map Value.string) (by rfl) (hoN.alloc _) ⟨w5.heap.size,0,none⟩ 6 6 [.string a1t,.string (d0L fr),.string atW,.string (d8f mn),.string b3z,.string (Txt.a0x mi)] (by rfl) (by rfl) (World.news_of_block (cs:=#[.string a1t,.string (d0L fr),.string atW,.string (d8f mn),.string b3z,.string (Txt.a0x mi)]) (t:=9) (fr:=(0,0)) (heap_alloc_new _ _)) (by simp[Value.oneCell']) (by omega) (by unfold maxLen;omega) (by omega) (by simp;omega) (w5.heap.size+1) (by simp) ?_;intro g cap w6 hown6 hgrow hat hltg)))
 go_split_ands
 have hbE:Below (w.heap.size+1) X w6:=by assumption
 have hs6:=hbE.size;obtain⟨ys,hys⟩:∃ ys:List Value,ys=List.map Value.string ps++[Value.string a1t,Value.string (d0L fr),Value.string atW,Value.string (d8f mn),Value.string b3z,Value.string (Txt.a0x mi)]:=⟨_,rfl⟩;rw[<- hys] at hown6;have HYS:=hide hys;clear hys hgrow hat
 go_wp2_with fail
 refine (d3R un w6 (eX.of10 hXs10 hbE) (by omega) (by omega)).mono ?_;rintro e w7 ⟨rfl,hb7⟩;have hoM:=c9H hown6 hb7;have hb67:Below (w.heap.size+1) X w7:=c8V hXs hbE hb7;have hs7:=hb67.size;clear hown6
 go_wp2_with (first
  |(at_builtin;refine wpList_append_own _ rfl _ _ 26 rfl (w.heap.size+1) 9 inf (.string ⟨#[]⟩) 1 16 Tryz.underlying26 hi0 hz0 hz1 hz2 rfl (by decide) _ _ _ rfl (hoM.alloc _) ⟨w7.heap.size,0,none⟩ 2 2 [.string b5O,.string (d0L un)] rfl rfl ?c1 ?c2 ?c3 ?c4 ?c5 ?_))
 case c1=>exact World.news_of_block (cs:=#[.string b5O,.string (d0L un)]) (heap_alloc_new w7 _)
 case c2=>simp[Value.oneCell']
 case c3=>unfold maxLen;omega
 case c4=>omega
 case c5=>simp;omega
 intro v8 w8 hown8 hgrow _;have hbG:Below (w.heap.size+1) X w8:=(hb67.alloc (by omega) _).grown hgrow (by simp;omega) (fun k hk=>d0U hoM hk);have HBG:=hide hbG;have HOW:=hide hown8;clear hbG hgrow hown8;go_wp2;go_ret;refine⟨_,rfl,?_,hbX.trans (HBG.out.mono (by omega))⟩;have h9:=c9G (base':=w.heap.size) HOW.out (by omega);rw[HYS.out] at h9;have e1:(ps++e7C fr mn mi++[b5O,d0L un]).length=ps.length+6+2:=by simp[e7C]
 have e2:(ps++e7C fr mn mi++[b5O,d0L un]).map Value.string=List.map Value.string ps++[Value.string a1t,Value.string (d0L fr),Value.string atW,Value.string (d8f mn),Value.string b3z,Value.string (Txt.a0x mi)]++[.string b5O,.string (d0L un)]:=by simp[e7C]
 rw[e1,e2];exact h9
theorem d9d(x:World)(xs:List ByteArray)(hB:B<=x.heap.size)(h0:xs.length<=160):(x.alloc (.cells (xs.map Value.string).toArray 9)).ownsRow B 9 1 (.slice (some ⟨x.heap.size,0,none⟩) xs.length xs.length) xs.length (xs.map Value.string):=by
 refine⟨by simp,.inr ⟨x.heap.size,xs.length,(xs.map Value.string).toArray,rfl,hB,heap_alloc_new x _,Nat.le_refl _,by unfold maxLen;omega,by simp,?_⟩⟩;exact List.take_of_length_le (by simp)
theorem e7X(pc ev:Int)(acc:List Int)(fr mn mi ti un:Int)(ps:List ByteArray)(hp:PaW pc ev acc ps)(w:World)(he:Env w):
  Calls Tryz.prog 338 #[b9E pc ev acc fr mn mi ti un] w fun e w'=>WR w w' ps e:=by
 cases hp with
 |daily ev acc e0 e1=>exact f2W ev acc fr mn mi ti un w he e0 e1
 |weekly ev acc e0 e1 hne hlen=>exact f0E ev acc fr mn mi ti un w he e0 e1 hne hlen
 |monthly ev acc e0 e1=>exact e6e ev acc fr mn mi ti un w he e0 e1
theorem e2k{ev:Int}{ps:List ByteArray}(hp:PaW pc ev acc ps):ps.length<=3:=by
 cases hp <;> simp
theorem e7Q(pc ev:Int)(acc:List Int)(fr mn mi ti un:Int)(xs:List ByteArray)(hr:RW pc ev acc fr mn mi ti un xs)(w:World)(he:Env w):
  Calls Tryz.prog 337 #[b9E pc ev acc fr mn mi ti un] w fun e w'=>WR w w' xs e:=by
 cases hr with
 |mk ps es hp hen f0 f1 m0 m1 i0 i1 =>
  cases hen with
  |times _ _ t0 t1=>exact f2H ps pc ev acc fr mn mi ti un w he (e2k hp) f0 f1 m0 m1 i0 i1 t0 t1 (fun x hx=>e7X pc ev acc fr mn mi ti un ps hp x hx)
  |til _ u0 u1=>exact f2G ps pc ev acc fr mn mi un w he (e2k hp) f0 f1 m0 m1 i0 i1 u0 u1 (fun x hx=>e7X pc ev acc fr mn mi 0 un ps hp x hx)
theorem e7O{ev:Int}{fr mn mi ti un:Int}(hr:RW pc ev acc fr mn mi ti un xs):0<xs.length/\xs.length<=11:=by
 cases hr with
 |mk ps es hp hen f0 f1 m0 m1 i0 i1 =>
  have h1:=e2k hp;have h2:es.length=2:=by cases hen <;> rfl
  simp[e7C,h2];omega
theorem f9z(pc ev:Int)(acc:List Int)(fr mn mi ti un:Int)(xs:List ByteArray)(hr:RW pc ev acc fr mn mi ti un xs)(w:World)(he:Env w):
  Calls Tryz.prog 346 #[.agg #[.int .i64 pc,.int .i64 ev,.bool (isd acc 0),.bool (isd acc 1),.bool (isd acc 2),.bool (isd acc 3),.bool (isd acc 4),.bool (isd acc 5),.bool (isd acc 6),.int .i64 fr,.int .i64 mn,.int .i64 mi,.int .i64 ti,.int .i64 un]] w fun e w'=>WR w w' ([a7M]++xs) e:=by
 obtain⟨inf,hi0,hz0,hz1,hz2⟩:=info_parts e4B;obtain⟨hx0,hx1⟩:=e7O hr;have hrw:=fun x hx=>e7Q pc ev acc fr mn mi ti un xs hr x hx
 clear hr;simp only[b9E] at hrw
 go_enter Tryz.func346,Tryz.ntmps346
 go_wp2_with fail
 obtain⟨X,hX⟩:∃ X,X=w.alloc (.cells #[.int .i64 pc,.int .i64 ev,.bool (isd acc 0),.bool (isd acc 1),.bool (isd acc 2),.bool (isd acc 3),.bool (isd acc 4),.bool (isd acc 5),.bool (isd acc 6),.int .i64 fr,.int .i64 mn,.int .i64 mi,.int .i64 ti,.int .i64 un] 180):=⟨_,rfl⟩;rw[<- hX];have hbX:Below w.heap.size w X:=by rw[hX];exact (zr _ _).alloc (zq _) _
 have hXs:X.heap.size=w.heap.size+1:=by rw[hX];simp
 clear hX;obtain⟨Y,hY⟩:∃ Y,Y=X.alloc (.cells #[.string ⟨#[101,120,112,97,110,100]⟩] 9):=⟨_,rfl⟩;rw[<- hY];have hbY:Below w.heap.size w Y:=by rw[hY];exact hbX.alloc (by omega) _
 have hoY:Y.ownsRow (w.heap.size+1) 9 1 (.slice (some ⟨w.heap.size+1,0,none⟩) 1 1) 1 ([a7M].map Value.string):=by
  have h:=d9d (B:=w.heap.size+1) X [a7M] (by omega) (by simp);rw[hXs] at h;rw[hY];exact h
 have hsY:Y.heap.size=w.heap.size+2:=by rw[hY];simp;omega
 clear hY;refine (hrw Y (he.later hbY)).mono ?_;rintro e w5 ⟨v2,rfl,ho2,hbf⟩;obtain⟨g2,cap2,rfl,hg2,hl2,hc2⟩:=d8s ho2 hx0;have hoN:=c9H hoY hbf;have hb5:Below w.heap.size w w5:=hbY.trans (hbf.mono (by omega));have hs5:=hbf.size;clear hoY ho2 hbf
 go_wp2_with (first
  |(at_builtin;refine wpList_append_own _ rfl _ _ 26 rfl (w.heap.size+1) 9 inf (.string ⟨#[]⟩) 1 16 Tryz.underlying26 hi0 hz0 hz1 hz2 rfl (by decide) _ _ _ rfl hoN ⟨g2,0,none⟩ xs.length cap2 (xs.map Value.string) rfl (by simp) ?c1 ?c2 ?c3 ?c4 ?c5 ?_))
 case c1=>exact hc2
 case c2=>intro u hu;simp only[List.mem_map] at hu;obtain⟨x,_,rfl⟩:=hu;rfl
 case c3=>unfold maxLen;omega
 case c4=>omega
 case c5=>omega
 intro v8 w8 hown8 hgrow _;have hbG:Below w.heap.size w w8:=hb5.grown hgrow (by omega) (fun k hk=>by have:=d0U hoN hk;omega);have HBG:=hide hbG;have HOW:=hide hown8;clear hbG hgrow hown8 hoN;go_wp2;go_ret;refine⟨_,rfl,?_,HBG.out⟩;have h9:=c9G (base':=w.heap.size) HOW.out (by omega);have e1:(a7M :: xs).length=1+xs.length:=by simp;omega
 rw[e1];exact h9
theorem f9y(n:ByteArray)(u:Int)(pc ev:Int)(acc:List Int)(fr mn mi ti un:Int)(xs:List ByteArray)(hr:RW pc ev acc fr mn mi ti un xs)(w:World)(he:Env w)(u0:0<=u)(u1:u<=9999999):
  Calls Tryz.prog 336 #[.agg #[.string n,.int .i64 u,.int .i64 pc,.int .i64 ev,.bool (isd acc 0),.bool (isd acc 1),.bool (isd acc 2),.bool (isd acc 3),.bool (isd acc 4),.bool (isd acc 5),.bool (isd acc 6),.int .i64 fr,.int .i64 mn,.int .i64 mi,.int .i64 ti,.int .i64 un]] w fun e w'=>WR w w' ([a7l,n,Txt.a0x u]++xs) e:=by
 obtain⟨inf,hi0,hz0,hz1,hz2⟩:=info_parts e4B;obtain⟨hx0,hx1⟩:=e7O hr;have hrw:=fun x hx=>e7Q pc ev acc fr mn mi ti un xs hr x hx
 clear hr;simp only[b9E] at hrw
 go_enter Tryz.func336,Tryz.ntmps336
 go_wp2_with fail
 obtain⟨X,hX⟩:∃ X,X=w.alloc (.cells #[.string n,.int .i64 u,.int .i64 pc,.int .i64 ev,.bool (isd acc 0),.bool (isd acc 1),.bool (isd acc 2),.bool (isd acc 3),.bool (isd acc 4),.bool (isd acc 5),.bool (isd acc 6),.int .i64 fr,.int .i64 mn,.int .i64 mi,.int .i64 ti,.int .i64 un] 165):=⟨_,rfl⟩;rw[<- hX];have hbX:Below w.heap.size w X:=by rw[hX];exact (zr _ _).alloc (zq _) _
 have eX:=he.later hbX;have hXs:w.heap.size+1<=X.heap.size:=by rw[hX];simp
 have hXs10:10<=w.heap.size+1:=by have:=he.size;omega
 have x0:X.cell? ⟨w.heap.size,0,none⟩=some (.string n):=by rw[hX];simp
 have x1:X.cell? ⟨w.heap.size,1,none⟩=some (.int .i64 u):=by rw[hX];simp
 have x2:X.cell? ⟨w.heap.size,2,none⟩=some (.int .i64 pc):=by rw[hX];simp
 have x3:X.cell? ⟨w.heap.size,3,none⟩=some (.int .i64 ev):=by rw[hX];simp
 have x4:X.cell? ⟨w.heap.size,4,none⟩=some (.bool (isd acc 0)):=by rw[hX];simp
 have x5:X.cell? ⟨w.heap.size,5,none⟩=some (.bool (isd acc 1)):=by rw[hX];simp
 have x6:X.cell? ⟨w.heap.size,6,none⟩=some (.bool (isd acc 2)):=by rw[hX];simp
 have x7:X.cell? ⟨w.heap.size,7,none⟩=some (.bool (isd acc 3)):=by rw[hX];simp
 have x8:X.cell? ⟨w.heap.size,8,none⟩=some (.bool (isd acc 4)):=by rw[hX];simp
 have x9:X.cell? ⟨w.heap.size,9,none⟩=some (.bool (isd acc 5)):=by rw[hX];simp
 have x10:X.cell? ⟨w.heap.size,10,none⟩=some (.bool (isd acc 6)):=by rw[hX];simp
 have x11:X.cell? ⟨w.heap.size,11,none⟩=some (.int .i64 fr):=by rw[hX];simp
 have x12:X.cell? ⟨w.heap.size,12,none⟩=some (.int .i64 mn):=by rw[hX];simp
 have x13:X.cell? ⟨w.heap.size,13,none⟩=some (.int .i64 mi):=by rw[hX];simp
 have x14:X.cell? ⟨w.heap.size,14,none⟩=some (.int .i64 ti):=by rw[hX];simp
 have x15:X.cell? ⟨w.heap.size,15,none⟩=some (.int .i64 un):=by rw[hX];simp
 have bX:=zr (w.heap.size+1) X;clear hX he
 go_region_held3 (fun w'=>Below (w.heap.size+1) X w'/\w'.cell? ⟨w.heap.size,0,none⟩=some (.string n)/\w'.cell? ⟨w.heap.size,1,none⟩=some (.int .i64 u)/\w'.cell? ⟨w.heap.size,2,none⟩=some (.int .i64 pc)/\w'.cell? ⟨w.heap.size,3,none⟩=some (.int .i64 ev)/\w'.cell? ⟨w.heap.size,4,none⟩=some (.bool (isd acc 0))/\w'.cell? ⟨w.heap.size,5,none⟩=some (.bool (isd acc 1))/\w'.cell? ⟨w.heap.size,6,none⟩=some (.bool (isd acc 2))/\w'.cell? ⟨w.heap.size,7,none⟩=some (.bool (isd acc 3))/\w'.cell? ⟨w.heap.size,8,none⟩=some (.bool (isd acc 4))/\w'.cell? ⟨w.heap.size,9,none⟩=some (.bool (isd acc 5))/\w'.cell? ⟨w.heap.size,10,none⟩=some (.bool (isd acc 6))/\w'.cell? ⟨w.heap.size,11,none⟩=some (.int .i64 fr)/\w'.cell? ⟨w.heap.size,12,none⟩=some (.int .i64 mn)/\w'.cell? ⟨w.heap.size,13,none⟩=some (.int .i64 mi)/\w'.cell? ⟨w.heap.size,14,none⟩=some (.int .i64 ti)/\w'.cell? ⟨w.heap.size,15,none⟩=some (.int .i64 un))
  (first
   |(go_split_ands;exact d6L (c8V hXs (by assumption) hbf) (fun hk=>⟨(hk.cell (p:=⟨w.heap.size,0,none⟩) (by simp)).trans x0,(hk.cell (p:=⟨w.heap.size,1,none⟩) (by simp)).trans x1,(hk.cell (p:=⟨w.heap.size,2,none⟩) (by simp)).trans x2,(hk.cell (p:=⟨w.heap.size,3,none⟩) (by simp)).trans x3,(hk.cell (p:=⟨w.heap.size,4,none⟩) (by simp)).trans x4,(hk.cell (p:=⟨w.heap.size,5,none⟩) (by simp)).trans x5,(hk.cell (p:=⟨w.heap.size,6,none⟩) (by simp)).trans x6,(hk.cell (p:=⟨w.heap.size,7,none⟩) (by simp)).trans x7,(hk.cell (p:=⟨w.heap.size,8,none⟩) (by simp)).trans x8,(hk.cell (p:=⟨w.heap.size,9,none⟩) (by simp)).trans x9,(hk.cell (p:=⟨w.heap.size,10,none⟩) (by simp)).trans x10,(hk.cell (p:=⟨w.heap.size,11,none⟩) (by simp)).trans x11,(hk.cell (p:=⟨w.heap.size,12,none⟩) (by simp)).trans x12,(hk.cell (p:=⟨w.heap.size,13,none⟩) (by simp)).trans x13,(hk.cell (p:=⟨w.heap.size,14,none⟩) (by simp)).trans x14,(hk.cell (p:=⟨w.heap.size,15,none⟩) (by simp)).trans x15⟩))
   |(go_split_ands;exact d6L (c8V hXs (by assumption) ((zr _ _).alloc (zq _) _)) (fun hk=>⟨(hk.cell (p:=⟨w.heap.size,0,none⟩) (by simp)).trans x0,(hk.cell (p:=⟨w.heap.size,1,none⟩) (by simp)).trans x1,(hk.cell (p:=⟨w.heap.size,2,none⟩) (by simp)).trans x2,(hk.cell (p:=⟨w.heap.size,3,none⟩) (by simp)).trans x3,(hk.cell (p:=⟨w.heap.size,4,none⟩) (by simp)).trans x4,(hk.cell (p:=⟨w.heap.size,5,none⟩) (by simp)).trans x5,(hk.cell (p:=⟨w.heap.size,6,none⟩) (by simp)).trans x6,(hk.cell (p:=⟨w.heap.size,7,none⟩) (by simp)).trans x7,(hk.cell (p:=⟨w.heap.size,8,none⟩) (by simp)).trans x8,(hk.cell (p:=⟨w.heap.size,9,none⟩) (by simp)).trans x9,(hk.cell (p:=⟨w.heap.size,10,none⟩) (by simp)).trans x10,(hk.cell (p:=⟨w.heap.size,11,none⟩) (by simp)).trans x11,(hk.cell (p:=⟨w.heap.size,12,none⟩) (by simp)).trans x12,(hk.cell (p:=⟨w.heap.size,13,none⟩) (by simp)).trans x13,(hk.cell (p:=⟨w.heap.size,14,none⟩) (by simp)).trans x14,(hk.cell (p:=⟨w.heap.size,15,none⟩) (by simp)).trans x15⟩))
   |(go_split_ands;exact d6L (c8V hXs (by assumption) (c7Y _)) (fun hk=>⟨(hk.cell (p:=⟨w.heap.size,0,none⟩) (by simp)).trans x0,(hk.cell (p:=⟨w.heap.size,1,none⟩) (by simp)).trans x1,(hk.cell (p:=⟨w.heap.size,2,none⟩) (by simp)).trans x2,(hk.cell (p:=⟨w.heap.size,3,none⟩) (by simp)).trans x3,(hk.cell (p:=⟨w.heap.size,4,none⟩) (by simp)).trans x4,(hk.cell (p:=⟨w.heap.size,5,none⟩) (by simp)).trans x5,(hk.cell (p:=⟨w.heap.size,6,none⟩) (by simp)).trans x6,(hk.cell (p:=⟨w.heap.size,7,none⟩) (by simp)).trans x7,(hk.cell (p:=⟨w.heap.size,8,none⟩) (by simp)).trans x8,(hk.cell (p:=⟨w.heap.size,9,none⟩) (by simp)).trans x9,(hk.cell (p:=⟨w.heap.size,10,none⟩) (by simp)).trans x10,(hk.cell (p:=⟨w.heap.size,11,none⟩) (by simp)).trans x11,(hk.cell (p:=⟨w.heap.size,12,none⟩) (by simp)).trans x12,(hk.cell (p:=⟨w.heap.size,13,none⟩) (by simp)).trans x13,(hk.cell (p:=⟨w.heap.size,14,none⟩) (by simp)).trans x14,(hk.cell (p:=⟨w.heap.size,15,none⟩) (by simp)).trans x15⟩))
   |(go_split_ands;exact d6L (Below.grown (by assumption) hgrow (by (try simp);omega) (fun k hk=>d0U hoN hk)) (fun hk=>⟨(hk.cell (p:=⟨w.heap.size,0,none⟩) (by simp)).trans x0,(hk.cell (p:=⟨w.heap.size,1,none⟩) (by simp)).trans x1,(hk.cell (p:=⟨w.heap.size,2,none⟩) (by simp)).trans x2,(hk.cell (p:=⟨w.heap.size,3,none⟩) (by simp)).trans x3,(hk.cell (p:=⟨w.heap.size,4,none⟩) (by simp)).trans x4,(hk.cell (p:=⟨w.heap.size,5,none⟩) (by simp)).trans x5,(hk.cell (p:=⟨w.heap.size,6,none⟩) (by simp)).trans x6,(hk.cell (p:=⟨w.heap.size,7,none⟩) (by simp)).trans x7,(hk.cell (p:=⟨w.heap.size,8,none⟩) (by simp)).trans x8,(hk.cell (p:=⟨w.heap.size,9,none⟩) (by simp)).trans x9,(hk.cell (p:=⟨w.heap.size,10,none⟩) (by simp)).trans x10,(hk.cell (p:=⟨w.heap.size,11,none⟩) (by simp)).trans x11,(hk.cell (p:=⟨w.heap.size,12,none⟩) (by simp)).trans x12,(hk.cell (p:=⟨w.heap.size,13,none⟩) (by simp)).trans x13,(hk.cell (p:=⟨w.heap.size,14,none⟩) (by simp)).trans x14,(hk.cell (p:=⟨w.heap.size,15,none⟩) (by simp)).trans x15⟩)))
  (first
   |(
    go_at_call 327
    go_split_ands
    refine (d0r u _ (eX.of10 hXs10 (by assumption)) (by omega) (by omega)).mono ?_;rintro e w4 ⟨rfl,hbf⟩
    have hs4:=d1E (B:=w.heap.size+1) (x:=X) (by assumption) hbf)
   |(
    go_at_call 337
    go_split_ands
    refine (hrw _ (eX.of10 hXs10 (by assumption))).mono ?_;rintro e w5 ⟨v2,rfl,ho2,hbf⟩;obtain⟨g2,cap2,rfl,hg2,hl2,hc2⟩:=d8s ho2 hx0
    have hs5:=d1E (B:=w.heap.size+1) (x:=X) (by assumption) hbf)
   |(
    have hoN:=c9H (d9d (B:=w.heap.size+1) w4 [a7l,n,Txt.a0x u] (by omega) (by simp)) hbf
    (refine step_append_lies _ (by rfl) _ _ _ (by rfl) (w.heap.size+1) 9 inf _ 1 16 Tryz.underlying26 hi0 hz0 hz1 hz2 rfl (by omega) (.slice (some ⟨w4.heap.size,0,none⟩) 3 3) 3 ([a7l,n,Txt.a0x u].map Value.string) (by rfl) hoN ⟨g2,0,none⟩ xs.length cap2 (xs.map Value.string) (by rfl) (by simp) hc2 (by intro u hu;simp only[List.mem_map] at hu;obtain⟨x,_,rfl⟩:=hu;rfl) (by omega) (by unfold maxLen;omega) (by omega) (by (try simp);omega) w5.heap.size (by simp) ?_;intro g cap w6 hown6 hgrow hat hltg))
   |(
    have hoN:=d9d (B:=w.heap.size+1) w5 [a7l,n,Txt.a0x u] (by omega) (by simp);obtain⟨g3,cap3,e3,_,_,hc3⟩:=d8s (ho2.alloc (.cells ([a7l,n,Txt.a0x u].map Value.string).toArray 9)) hx0
    cases e3
    (refine step_append_lies _ (by rfl) _ _ _ (by rfl) (w.heap.size+1) 9 inf _ 1 16 Tryz.underlying26 hi0 hz0 hz1 hz2 rfl (by omega) (.slice (some ⟨w5.heap.size,0,none⟩) 3 3) 3 ([a7l,n,Txt.a0x u].map Value.string) (by rfl) hoN ⟨g2,0,none⟩ xs.length cap2 (xs.map Value.string) (by rfl) (by simp) hc3 (by intro u hu;simp only[List.mem_map] at hu;obtain⟨x,_,rfl⟩:=hu;rfl) (by omega) (by unfold maxLen;omega) (by omega) (by (try simp);omega) (w5.heap.size+1) (by simp) ?_;intro g cap w6 hown6 hgrow hat hltg)))
 all_goals
  go_split_ands
  have hbE:Below (w.heap.size+1) X w6:=by assumption
  have HBE:=hide hbE;have HOW:=hide hown6;clear hbE hown6;go_wp2;go_ret;refine⟨_,rfl,?_,hbX.trans (HBE.out.mono (by omega))⟩;have h9:=c9G (base':=w.heap.size) HOW.out (by omega);have e1:(a7l :: n :: Txt.a0x u :: xs).length=3+xs.length:=by simp;omega
  rw[e1];exact h9
theorem c9M (T K : Nat) (x : Value) (xs : List ByteArray) (w : World) (he : Env w) (hm : ∀ w : World, (method 498 T x "bookings/lines.plainWords").run Tryz.prog w = .ok (K, x) w) (hk : ∀ w : World, (callFunc K #[x]).run Tryz.prog w = .ok (.enter K #[x]) w)
  (hc:∀ w:World,Env w->Calls Tryz.prog K #[x] w fun e w'=>WR w w' xs e) (h0:0<xs.length) (h1:xs.length<=20) (hlen:(Lib.join (xs.map (·.data.toList)) [32]).length<=30000):
  Calls Tryz.prog 50 #[.iface T x] w fun e w'=>e=.returned (.string (jn xs))/\Below w.heap.size w w':=by
 have HE:=hide he;have HC:=hide hc;have HLEN:=hide hlen;clear he hc hlen
 go_enter Tryz.func50,Tryz.ntmps50
 go_wp2_with fail
 refine (a0d HC w (a0d HE)).mono ?_;rintro e w1 ⟨v,rfl,ho,hb1⟩;obtain⟨a,c,g,rfl,hrow⟩:=e0O ho rfl;obtain rfl:=hrow.at_ h0;have HROW:=hide hrow
 have hcap:xs.length<=c:=by
  rcases ho.2 with ⟨h,_⟩|⟨g',cap,cur,hv,_,_,hc,_⟩
  ·cases h
  ·cases hv;exact hc
 have hgl:g<w1.heap.size:=zb _ ⟨g,0,none⟩ (hrow.cells 0 h0);clear ho hrow
 go_wp2_with fail
 refine (Tryz.strings_Join g 0 c xs ⟨#[32]⟩ w1 (fun j x hx=>?_) hgl (by omega) hcap (zt (a0d HLEN) (by omega))).mono ?_
 ·obtain⟨hj,e⟩:=List.getElem?_eq_some_iff.1 hx;have:=(a0d HROW).cells j hj;rw[e] at this;rw[Nat.zero_add];exact this
 rintro e w' ⟨rfl,hbj⟩;have hbe:=c8d hb1 hbj;go_wp2;go_ret;exact⟨rfl,hbe⟩
theorem f9P(xs:List ByteArray):(Lib.join (xs.map (·.data.toList)) [32]).length=(jn xs).size:=by
 rw[<- Txt.a1d];rfl
theorem f5p(v:Value)(xs:List ByteArray)(hk:c2h v∈d2B)(hp:PW v xs)(w:World)(he:Env w)(h0:0<xs.length)(h1:xs.length<=20)(hs:(jn xs).size<=30000):
  Calls Tryz.prog 50 #[v] w fun e w'=>e=.returned (.string (jn xs))/\Below w.heap.size w w':=by
 rw[<- f9P] at hs
 cases hp with
 |a0k=>exact absurd hk (show ¬ ((149:Nat)∈d2B) by decide)
 |book n u a b u0 u1 a0 a1 b0 b1=>exact c9M 154 328 _ _ w he (fun _=>by kernel_rfl) (fun _=>by kernel_rfl) (fun w he=>g2u n u a b w he u0 u1 a0 a1 b0 b1) h0 h1 hs
 |hold n u a b m u0 u1 a0 a1 b0 b1 m0 m1=>exact c9M 156 334 _ _ w he (fun _=>by kernel_rfl) (fun _=>by kernel_rfl) (fun w he=>g2s n u a b m w he u0 u1 a0 a1 b0 b1 m0 m1) h0 h1 hs
 |wait n u a b m u0 u1 a0 a1 b0 b1 m0 m1=>exact c9M 157 335 _ _ w he (fun _=>by kernel_rfl) (fun _=>by kernel_rfl) (fun w he=>g2p n u a b m w he u0 u1 a0 a1 b0 b1 m0 m1) h0 h1 hs
 |series n u pc ev acc fr mn mi ti un xs u0 u1 hr=>exact c9M 165 336 _ _ w he (fun _=>by kernel_rfl) (fun _=>by kernel_rfl) (fun w he=>f9y n u pc ev acc fr mn mi ti un xs hr w he u0 u1) h0 h1 hs
 |confirm u u0 u1=>exact c9M 167 340 _ _ w he (fun _=>by kernel_rfl) (fun _=>by kernel_rfl) (fun w he=>f6H u w he u0 u1) h0 h1 hs
 |cancel u u0 u1=>exact c9M 168 341 _ _ w he (fun _=>by kernel_rfl) (fun _=>by kernel_rfl) (fun w he=>f9A u w he u0 u1) h0 h1 hs
 |list0=>exact absurd hk (show ¬ ((170:Nat)∈d2B) by decide)
 |list1=>exact absurd hk (show ¬ ((170:Nat)∈d2B) by decide)
 |waiting=>exact absurd hk (show ¬ ((173:Nat)∈d2B) by decide)
 |peak=>exact absurd hk (show ¬ ((176:Nat)∈d2B) by decide)
 |find=>exact absurd hk (show ¬ ((178:Nat)∈d2B) by decide)
 |expand=>exact absurd hk (show ¬ ((180:Nat)∈d2B) by decide)
 |tick u u0 u1=>exact c9M 182 347 _ _ w he (fun _=>by kernel_rfl) (fun _=>by kernel_rfl) (fun w he=>g2q u w he u0 u1) h0 h1 hs
 |clock=>exact absurd hk (show ¬ ((183:Nat)∈d2B) by decide)
theorem e6W(s:ByteArray)(w:World)(he:Env w)(hr:Reads s v)(hk:c2h v∈d2B)(hp:PW v xs)(x0:0<xs.length)(x1:xs.length<=20)(hsz:(jn xs).size<=30000):
  Calls Tryz.prog 35 #[.string s] w fun e w'=>e=.returned (.tuple #[.string (jn xs),.int .i64 0,.int .i64 0])/\Below w.heap.size w w':=by
 have HE:=hide he;have HR:=hide hr;have HPW:=hide hp;have HK:=hide hk;clear he hr hp hk
 go_enter Tryz.func35,Tryz.ntmps35
 go_wp2_with fail
 refine (b6h s w (a0d HE)).mono ?_;rintro e w1 ⟨hr,hb1⟩;have e1:=(a0d HR) e hr;subst e1;clear hr HR
 go_wp2_with fail
 refine (f5p v xs (a0d HK) (a0d HPW) w1 ((a0d HE).later hb1) x0 x1 hsz).mono ?_;rintro e w2 ⟨rfl,hb2⟩;have hbb:=c8d hb1 hb2;go_wp2;go_ret3;exact⟨rfl,hbb⟩
open Desk (Ent St Ids kept a0C a0Q a1C a2e ofB a0y a2c Mid a1H a0z Inv a0h a2x a1q Rep)
theorem f2r(w:World)(he:Env w):Calls Tryz.prog 44 #[] w fun e w'=>∃ p d col,e=.returned (.pointer (some ⟨p,0,none⟩))/\BD w' p d st0 c2z col/\Below w.heap.size w w'/\(∀ b,b<w.heap.size->col b=none)/\w.heap.size<=p:=by
 have DN:=a0b (b5o w);have HE:=a0b he;have hsz:=he.size;clear he
 go_enter Tryz.func44,Tryz.ntmps44
 go_wp2_with (first
  |(go_at_call 60;refine DN.out.mono ?_;rintro e w1 ⟨v,rfl,rfl,hd,hb⟩))
 have HF:Hid (BD (w1.alloc (.cells #[.pointer (some ⟨w.heap.size+2,0,none⟩)] 99)) w1.heap.size (w.heap.size+2) st0 c2z (c1O w.heap.size)/\Below w.heap.size w (w1.alloc (.cells #[.pointer (some ⟨w.heap.size+2,0,none⟩)] 99))/\(∀ b,b<w.heap.size->c1O w.heap.size b=none)/\w.heap.size<=w1.heap.size):=by
  have k:Below w1.heap.size w1 (w1.alloc (.cells #[.pointer (some ⟨w.heap.size+2,0,none⟩)] 99)):=(zr _ _).alloc (zq _) _;have hlow:∀ b,b<w.heap.size->c1O w.heap.size b=none:=fun b hb'=>by unfold c1O;rw[if_neg (by omega),if_neg (by omega),if_neg (by omega)]
  exact⟨⟨a0p w1 _,hd.dk.none (zq _),⟨hd.dk.later k,hd.of,hd.wl,hd.hl,hd.inv⟩,(HE.out.later hb).later k,fun b hb'=>hlow b (by omega)⟩,hb.trans (k.mono hb.size),hlow,hb.size⟩
 clear hd hb
 go_wp2_with fail
 exact bodyPost_ret (v:=.pointer (some ⟨w1.heap.size,0,none⟩)) (by simp[results,Tryz.results44,go_sem]) rfl ⟨_,_,_,rfl,HF.out⟩
theorem f0a(w:World)(he:Env w)(a b:Int)(ha:1<=a/\a<=9)(hb:1<=b/\b<=9):
  Calls Tryz.prog 18 #[.agg #[.int .i64 a,.int .i64 b]] w fun e w'=>∃ p dk r col,e=.returned (.tuple #[.pointer (some ⟨p,0,none⟩),.bool true])/\DG w w' p dk (a3Z a b) r col/\w.heap.size<=p:=by
 have hX:Below w.heap.size w (w.alloc (a1T a b)):=(zr _ _).alloc (zq _) _;have hq:(w.alloc (a1T a b)).heap[w.heap.size]?=some (a1T a b):=a0p w _;have z1:=Txt.a0I a (by omega) (by omega);have z2:=Txt.a0I b (by omega) (by omega);have NE:=a0b (f2r _ (he.later hX));have HX:=a0b (zA hX hq);have TA:Hid (Reads ((⟨#[116,104,105,110,103,32,97,32]⟩:ByteArray)++Txt.a0x a) (.iface 149 (.agg #[.string nmA,.int .i64 a]))):=a8K c7k ha (by rw[Txt.a1X];rfl);have TB:Hid (Reads ((⟨#[116,104,105,110,103,32,98,32]⟩:ByteArray)++Txt.a0x b) (.iface 149 (.agg #[.string nmC,.int .i64 b]))):=a8K c7j hb (by rw[Txt.a1X];rfl);obtain⟨ha1,ha9⟩:=ha;obtain⟨hb1,hb9⟩:=hb;clear hX hq he
 go_enter Tryz.func18,Tryz.ntmps18
 go_upto_region 1 with fail
 change Code.wp _ _ _ _ (w.alloc (a1T a b));have hs:w.heap.size<(w.alloc (a1T a b)).heap.size:=by simp
 generalize w.alloc (a1T a b)=X at *
 go_upto_region 4 with (first
  |(go_at_call 44;refine NE.out.mono ?_;rintro e w1 ⟨p,dk,c1O,rfl,bd,hbw,hlo,hpp⟩))
 have HPP:=a0b (zt (Nat.le_of_lt hs) hpp);clear hpp;have D1:=a0b (DG.mk bd hbw hlo);have hr1:=(hbw.block w.heap.size hs).trans HX.out.2;clear NE bd hbw hlo
 have RO:Hid (∀ W':World,Below X.heap.size X W'->W'.cell? ⟨w.heap.size,0,none⟩=some (.int .i64 a)/\W'.cell? ⟨w.heap.size,1,none⟩=some (.int .i64 b)):=fun W' k=>by
  have h:=(k.block w.heap.size hs).trans HX.out.2;unfold a1T at h;obtain⟨x,y,_⟩:=b0q h;exact⟨x,y⟩
 obtain⟨ra,rb⟩:=RO.out w1 D1.out.bl;clear hr1 rb
 go_upto_region 5 with (first
  |(go_at_call 22;refine (a6O a _ D1.out.bd.env (by omega) (by omega)).mono ?_;rintro e w2 ⟨rfl,hb2⟩;have D2:=a0b (D1.out.later hb2);clear hb2)
  |(go_at_call 21;refine (g1v D2.out TA.out (.a0k nmA (by decide) a) ⟨ha1,ha9⟩ rfl (c4w a)).mono ?_;rintro e w3 ⟨l1,a1,a2,a3,a4,n2,c1,c2,c3,c4,r1,col1,rfl,P1⟩;dsimp only[List.length_nil]))
 change Code.wp _ _ _ _ (w3.alloc (a5w 0 0 0 (.slice a1 l1.length c1) (.slice a2 n2 c2) (.slice a3 0 c3) (.slice a4 0 c4)));have R1:=a0b (a0p w3 (a5w 0 0 0 (.slice a1 l1.length c1) (.slice a2 n2 c2) (.slice a3 0 c3) (.slice a4 0 c4)));have D3:=a0b (P1.dg.later ((zr w3.heap.size w3).alloc (zq _) (a5w 0 0 0 (.slice a1 l1.length c1) (.slice a2 n2 c2) (.slice a3 0 c3) (.slice a4 0 c4))));have N1:=a0b (P1.dg.none (zq w3.heap.size));clear P1 D1 D2 ra;generalize w3.alloc (a5w 0 0 0 (.slice a1 l1.length c1) (.slice a2 n2 c2) (.slice a3 0 c3) (.slice a4 0 c4))=Z3 at R1 D3 ⊢;generalize w3.heap.size=B1 at R1 N1 ⊢;have rb:=(RO.out Z3 D3.out.bl).2
 go_upto_region 6 with (first
  |(go_at_call 22;refine (a6O b _ D3.out.bd.env (by omega) (by omega)).mono ?_;rintro e w4 ⟨rfl,hb4⟩;have D4:=a0b (D3.out.later hb4);have R4:=a0b ((hb4.block B1 (Array.getElem?_eq_some_iff.1 R1.out).1).trans R1.out);clear hb4)
  |(go_at_call 21;refine (g1v D4.out TB.out (.a0k nmC (by decide) b) ⟨hb1,hb9⟩ rfl (c4v a b)).mono ?_;rintro e w5 ⟨l2,b1,b2,b3,b4,m2,d1,d2,d3,d4,r2,col2,rfl,P2⟩;dsimp only[List.length_nil]))
 change Code.wp _ _ _ _ (w5.alloc (a5w 0 0 0 (.slice b1 l2.length d1) (.slice b2 m2 d2) (.slice b3 0 d3) (.slice b4 0 d4)));obtain⟨R5,N5⟩:=P2.st.still R4.out N1.out;have kb:=(zr w5.heap.size w5).alloc (zq _) (a5w 0 0 0 (.slice b1 l2.length d1) (.slice b2 m2 d2) (.slice b3 0 d3) (.slice b4 0 d4));have D6:=a0b (P2.dg.later kb);have e1:=(a2T ((kb.block B1 (Array.getElem?_eq_some_iff.1 R5).1).trans R5)).1;have e2:=(a2T (a0p w5 (a5w 0 0 0 (.slice b1 l2.length d1) (.slice b2 m2 d2) (.slice b3 0 d3) (.slice b4 0 d4)))).1;clear R5 N5 kb P2 rb R1 N1 D3 D4 R4 RO;generalize w5.alloc (a5w 0 0 0 (.slice b1 l2.length d1) (.slice b2 m2 d2) (.slice b3 0 d3) (.slice b4 0 d4))=Z6 at e1 e2 D6 ⊢;generalize w5.heap.size=B2 at e2 ⊢
 have HF:Hid (DG w Z6.drew p dk (a3Z a b) r2 col2):=by
  have k:=D6.out.later (a0q Z6);exact⟨k.bd,HX.out.1.trans (k.bl.mono HX.out.1.size),fun c hc=>k.lo c (zL hc HX.out.1.size)⟩
 clear D6 HX TA TB hs
 go_big_region
 go_wp2_with fail
 go_ret2;exact⟨p,dk,r2,col2,rfl,HF.out,HPP.out⟩
open Desk (Ent St Inv a0h a2x a1q Rep)
def d1l(cc:Nat->Option (Nat × Col))(i k:Nat):Option Col :=
 match cc k with
 |some q=>if q.1=i then some q.2 else none
 |none=>none
def d1J(cc:Nat->Option (Nat × Col))(k:Nat):Option Col:=(cc k).map (·.2)
theorem d4S(h:cc k=none):d1J cc k=none:=by unfold d1J;rw[h];rfl
theorem d1U(h:cc k=none):d1l cc i k=none:=by unfold d1l;rw[h]
theorem c8K{c:Col}:d1l cc i k=some c↔cc k=some (i,c):=by
 unfold d1l
 cases h:cc k with
 |none=>simp
 |some q =>
  obtain⟨j,d⟩:=q;simp only[Option.some.injEq,Prod.mk.injEq]
  by_cases e:j=i
  ·rw[if_pos e];simp[e]
  ·rw[if_neg e];simp[e]
structure OR where
 v:Value
 t:TypeId
 z:Nat
 n:Nat
 xs:List Value
structure f5y(W:World)(col:Nat->Option Col)(q:OR):Prop where
 own:W.ownsRow 0 q.t q.z q.v q.n q.xs
 no:∀ b,q.v.ownBlock=some b->col b=none
theorem f5y.step{q:OR}(h:f5y W col q)(st:Step anyS W.heap.size col col' W W'):f5y W' col' q:=by
 have hv:∀ b,q.v.ownBlock=some b->col b=none/\b<W.heap.size:=fun b hb=>⟨h.no b hb,(h.own.lt b hb).2⟩
 exact⟨st.own h.own hv,fun b hb=>st.keepN (hv b hb).1 (hv b hb).2⟩
def c9T(v:Value)(l:List Int):OR:=⟨v,3,1,l.length,l.map (Value.int .i64)⟩
abbrev Dsk:=Nat × Nat × St
structure CMs(X W:World)(cc:Nat->Option (Nat × Col))(ds:List Dsk)(ks:List (Nat × Obj))(es:List (Value × List (Ent × Value)))(rs:List OR):Prop where
 dg:∀ (i:Nat) (d:Dsk),ds[i]?=some d->∃ r,DG X W d.1 d.2.1 d.2.2 r (d1l cc i)
 pp:∀ d∈ds,cc d.1=none
 ks:∀ q∈ks,KB W (d1J cc) q.1 q.2
 es:∀ q∈es,a3j W 0 (d1J cc) q.1 q.2
 rs:∀ q∈rs,f5y W (d1J cc) q
 lt:∀ k,W.heap.size<=k->cc k=none
 ev:Env W
 bl:Below X.heap.size X W
 nb:∀ k q,cc k=some q->q.1<ds.length
def CM(X W:World)(ds:List Dsk)(ks:List (Nat × Obj))(es:List (Value × List (Ent × Value)))(rs:List OR):Prop:=∃ cc,CMs X W cc ds ks es rs
theorem CM.start(he:Env X):CM X X [] [] [] []:=⟨fun _=>none,fun i d h=>by simp at h,by simp,by simp,by simp,by simp,fun _ _=>rfl,he,Below.refl _ _,fun _ _ h=>by cases h⟩
theorem CM.later{ds:List Dsk}{rs:List OR}(h:CM X W ds ks es rs)(k:Below W.heap.size W W'):CM X W' ds ks es rs:=by
 obtain⟨cc,h⟩:=h;have st:Step anyS W.heap.size (d1J cc) (d1J cc) W W':=Step.below k;refine⟨cc,fun i d hd=>?_,h.pp,fun q hq=>(h.ks q hq).later k,fun q hq=>(h.es q hq).step (S:=anyS) (B:=W.heap.size) st (zq _),fun q hq=>(h.rs q hq).step st,fun b hb=>h.lt b (zt k.size hb),h.ev.later k,h.bl.trans (k.mono h.bl.size),h.nb⟩;obtain⟨r,D⟩:=h.dg i d hd;exact⟨r,D.later k⟩
theorem CM.less{ds:List Dsk}{ks':List (Nat × Obj)}{es':List (Value × List (Ent × Value))}{rs rs':List OR}(h:CM X W ds ks es rs)(hk:∀ q∈ks',q∈ks)(he:∀ q∈es',q∈es)(hr:∀ q∈rs',q∈rs):CM X W ds ks' es' rs':=by
 obtain⟨cc,h⟩:=h;exact⟨cc,h.dg,h.pp,fun q hq=>h.ks q (hk q hq),fun q hq=>h.es q (he q hq),fun q hq=>h.rs q (hr q hq),h.lt,h.ev,h.bl,h.nb⟩
theorem CM.alloc{ds:List Dsk}{rs:List OR}(h:CM X W ds ks es rs)(o:Obj):CM X (W.alloc o) ds ((W.heap.size,o) :: ks) es rs:=by
 have k:Below W.heap.size W (W.alloc o):=(zr _ _).alloc (zq _) _;obtain⟨cc,h0⟩:=h;have st:Step anyS W.heap.size (d1J cc) (d1J cc) W (W.alloc o):=Step.below k;refine⟨cc,fun i d hd=>?_,h0.pp,fun q hq=>?_,fun q hq=>(h0.es q hq).step (S:=anyS) (B:=W.heap.size) st (zq _),fun q hq=>(h0.rs q hq).step st,fun b hb=>h0.lt b (zt k.size hb),h0.ev.later k,h0.bl.trans (k.mono h0.bl.size),h0.nb⟩
 ·obtain⟨r,D⟩:=h0.dg i d hd;exact⟨r,D.later k⟩
 ·rcases List.mem_cons.1 hq with rfl|hq
  ·exact⟨a0p W o,d4S (h0.lt _ (zq _))⟩
  ·exact (h0.ks q hq).later k
theorem CM.env{ds:List Dsk}{rs:List OR}(h:CM X W ds ks es rs):Env W:=by
 obtain⟨cc,h⟩:=h;exact h.ev
theorem CM.bl{ds:List Dsk}{rs:List OR}(h:CM X W ds ks es rs):Below X.heap.size X W:=by
 obtain⟨cc,h⟩:=h;exact h.bl
theorem CM.inv{ds:List Dsk}{rs:List OR}(h:CM X W ds ks es rs)(hi:ds[i]?=some (p,dk,s)):Inv s:=by
 obtain⟨cc,h⟩:=h;obtain⟨r,D⟩:=h.dg i _ hi;exact D.inv
theorem CM.kb{ds:List Dsk}{rs:List OR}(h:CM X W ds ks es rs)(hq:(b,o)∈ks):W.heap[b]?=some o:=by
 obtain⟨cc,h⟩:=h;exact (h.ks _ hq).h
theorem CM.ev{ds:List Dsk}{rs:List OR}(h:CM X W ds ks es rs)(hq:(v,l)∈es):EV W v l:=by
 obtain⟨cc,h⟩:=h;exact (h.es _ hq).ev
theorem CM.row{ds:List Dsk}{rs:List OR}(h:CM X W ds ks es rs){q:OR}(hq:q∈rs):W.ownsRow 0 q.t q.z q.v q.n q.xs:=by
 obtain⟨cc,h⟩:=h;exact (h.rs _ hq).own
theorem CMs.step{ds:List Dsk}{rs:List OR}(h:CMs X W cc ds ks es rs){d:Dsk}(hi:ds[i]?=some d){s':St}{r':Raw}(D':DG X W' d.1 d.2.1 s' r' col')(st:Step anyS W.heap.size (d1l cc i) col' W W'):
  ∃ cc',(∀ b,W.heap.size<=b->col' b=none->d1J cc' b=none)/\CMs X W' cc' (ds.set i (d.1,d.2.1,s')) ks es rs:=by
 let cc':Nat->Option (Nat × Col):=fun k=>match col' k with
  |some c=>some (i,c)
  |none=>cc k
 have c1:∀ {k c},col' k=some c->cc' k=some (i,c):=fun {k c} e=>by show (match col' k with|some c=>some (i,c)|none=>cc k)=_;rw[e]
 have c0:∀ {k},col' k=none->cc' k=cc k:=fun {k} e=>by show (match col' k with|some c=>some (i,c)|none=>cc k)=_;rw[e]
 have hself:d1l cc' i=col':=funext fun k=>by
  cases e:col' k with
  |some c=>exact c8K.2 (c1 e)
  |none =>
   cases e2:d1l cc' i k with
   |none=>rfl
   |some c =>
    have e3:=c8K.1 e2;rw[c0 e] at e3;have:=st.a9i k c (c8K.2 e3);rw[e] at this;cases this
 have hoth:∀ j,j≠i->d1l cc' j=d1l cc j:=fun j hj=>funext fun k=>by
  cases e:col' k with
  |none=>unfold d1l;rw[c0 e]
  |some c =>
   have e1:d1l cc' j k=none:=by
    cases e2:d1l cc' j k with
    |none=>rfl
    |some c2 =>
     have:=c8K.1 e2;rw[c1 e] at this;simp only[Option.some.injEq,Prod.mk.injEq] at this;exact absurd this.1.symm hj
   rw[e1];rcases st.new k c e with h2|h2
   ·cases e3:d1l cc j k with
    |none=>rfl
    |some c3 =>
     have x1:=c8K.1 h2;have x2:=c8K.1 e3;rw[x1] at x2;simp only[Option.some.injEq,Prod.mk.injEq] at x2;exact absurd x2.1.symm hj
   ·exact (d1U (h.lt k h2)).symm
 obtain⟨G,off,hG⟩:=st.off
 have hG2:∀ x∈G,(∃ c,cc x=some (i,c))\/W.heap.size<=x:=fun x hx=>by
  rcases hG x hx with ⟨c,e,_⟩|⟨_,e⟩
  ·exact .inl ⟨c,c8K.1 e⟩
  ·exact .inr e
 have ST:Step anyS W.heap.size (d1J cc) (d1J cc') W W':=by
  refine⟨⟨G,off,fun x hx=>?_⟩,fun k c hk=>?_,fun k c hk=>?_⟩
  ·rcases hG2 x hx with ⟨c,e⟩|e
   ·exact .inl ⟨c,by unfold d1J;rw[e];rfl,trivial⟩
   ·exact .inr ⟨d4S (h.lt x e),e⟩
  ·unfold d1J at hk ⊢
   cases e:cc k with
   |none=>rw[e] at hk;cases hk
   |some q =>
    obtain⟨j,c2⟩:=q;rw[e] at hk;simp only[Option.map_some,Option.some.injEq] at hk;subst hk
    by_cases hj:j=i
    ·subst hj;rw[c1 (st.a9i k c2 (c8K.2 e))];rfl
    ·cases e2:col' k with
     |none=>rw[c0 e2,e];rfl
     |some c3 =>
      rcases st.new k c3 e2 with h2|h2
      ·have:=c8K.1 h2;rw[e] at this;simp only[Option.some.injEq,Prod.mk.injEq] at this;exact absurd this.1 hj
      ·rw[h.lt k h2] at e;cases e
  ·unfold d1J at hk ⊢
   cases e2:col' k with
   |none=>rw[c0 e2] at hk;exact .inl hk
   |some c3 =>
    rw[c1 e2] at hk;simp only[Option.map_some,Option.some.injEq] at hk;subst hk;rcases st.new k c3 e2 with h2|h2
    ·rw[c8K.1 h2];exact .inl rfl
    ·exact .inr h2
 refine⟨cc',fun b hb hc=>by rw[d4S];rw[c0 hc];exact h.lt b hb,fun j dj hj=>?_,fun dj hdj=>?_,fun q hq=>(h.ks q hq).step ST,fun q hq=>(h.es q hq).step ST (zq _),fun q hq=>(h.rs q hq).step ST,fun k hk=>?_,D'.bd.env,D'.bl,fun k q hq=>?_⟩
 ·have hil:i<ds.length:=(List.getElem?_eq_some_iff.1 hi).1
  by_cases e:i=j
  ·subst e;rw[List.getElem?_set_self hil] at hj;simp only[Option.some.injEq] at hj;subst hj;exact⟨r',by rw[hself];exact D'⟩
  ·rw[List.getElem?_set_ne e] at hj;obtain⟨r,D⟩:=h.dg j dj hj
   have hp:dj.1 ∉ G:=fun hx=>by
    rcases hG2 _ hx with ⟨c,e2⟩|e2
    ·rw[h.pp dj (List.mem_of_getElem? hj)] at e2;cases e2
    ·have:=(Array.getElem?_eq_some_iff.1 D.bd.pc).1;omega
   rw[hoth j (fun x=>e x.symm)];refine⟨r,⟨⟨(off.block dj.1 (Array.getElem?_eq_some_iff.1 D.bd.pc).1 hp).trans D.bd.pc,D.bd.pn,⟨D.bd.ds.dk.off off (fun x hx=>?_),D.bd.ds.of,D.bd.ds.wl,D.bd.ds.hl,D.bd.ds.inv⟩,D'.bd.env,D.bd.gl⟩,D'.bl,D.lo⟩⟩;rcases hG2 x hx with ⟨c,e2⟩|e2
   ·cases e3:d1l cc j x with
    |none=>rfl
    |some c3 =>
     have:=c8K.1 e3;rw[e2] at this;simp only[Option.some.injEq,Prod.mk.injEq] at this;exact absurd this.1 e
   ·exact d1U (h.lt x e2)
 ·have hil:i<ds.length:=(List.getElem?_eq_some_iff.1 hi).1
  have hd0:∃ d0∈ds,dj.1=d0.1:=by
   rcases List.mem_or_eq_of_mem_set hdj with e|e
   ·exact⟨dj,e,rfl⟩
   ·exact⟨d,List.mem_of_getElem? hi,by rw[e]⟩
  obtain⟨d0,m0,e0⟩:=hd0;have n0:=h.pp d0 m0;rw[<- e0] at n0;obtain⟨j,hj,ej⟩:=List.getElem_of_mem m0;obtain⟨r,D⟩:=h.dg j d0 (by rw[List.getElem?_eq_getElem hj,ej]);have hb:dj.1<W.heap.size:=by rw[e0];exact (Array.getElem?_eq_some_iff.1 D.bd.pc).1
  rw[c0 (st.keepN (d1U n0) hb)];exact n0
 ·have hs:=st.size;rw[c0 (D'.none hk)];exact h.lt k (zt hs hk)
 ·rw[List.length_set]
  cases e:col' k with
  |none=>rw[c0 e] at hq;exact h.nb k q hq
  |some c =>
   rw[c1 e] at hq;simp only[Option.some.injEq] at hq;subst hq;exact (List.getElem?_eq_some_iff.1 hi).1
open Desk (Ent St Inv a0h a2x)
def MDo(X W:World)(ds:List Dsk)(i p dk:Nat)(ks:List (Nat × Obj))(es:List (Value × List (Ent × Value)))(rs:List OR)(q:St × Rep)(e:Ending)(W':World):Prop :=
 ∃ (l:List (Ent × Value)) (a1 a2 a3 a4:Option Addr) (c1 c2 c3 c4:Nat),e=.returned (.agg #[.int .i64 q.2.err,.int .i64 q.2.at_,.int .i64 q.2.n,.slice a1 l.length c1,.slice a2 q.2.days.length c2,.slice a3 q.2.granted.length c3,.slice a4 q.2.ended.length c4]) /\
  l.map (·.1)=q.2.entries/\CM X W' (ds.set i (p,dk,q.1)) ks ((.slice a1 l.length c1,l) :: es) (c9T (.slice a2 q.2.days.length c2) q.2.days :: c9T (.slice a3 q.2.granted.length c3) q.2.granted :: c9T (.slice a4 q.2.ended.length c4) q.2.ended :: rs)/\W.heap.size<=W'.heap.size
theorem a2I.orow{l:List Int}(h:a2I W B col v l)(hc:∀ b,B<=b->col b=none->cl b=none):f5y W cl (c9T v l) :=
 ⟨a9c h.own (zN _),fun b hb=>hc b (h.own.lt b hb).1 (h.no b hb)⟩
theorem a3j.flat(h:a3j W B col v l)(hc:∀ b,B<=b->col b=none->cl b=none):a3j W 0 cl v l :=
 ⟨a9c h.own (zN _),fun b hb=>hc b (h.own.lt b hb).1 (h.no b hb),fun p hp=>⟨⟨a9c (h.sp p hp).1.own (zN _),fun b hb=>hc b ((h.sp p hp).1.own.lt b hb).1 ((h.sp p hp).1.no b hb)⟩,(h.sp p hp).2⟩⟩
theorem f2I{ds:List Dsk}{rs:List OR}(h:CMs X W cc ds ks es rs)(hi:ds[i]?=some (p,dk,s)){r:Raw}(D:DG X W p dk s r (d1l cc i)){q:St × Rep}(k:b5M W p dk (d1l cc i) q v W'):MDo X W ds i p dk ks es rs q (.returned v) W':=by
 obtain⟨r',col',bd,st,en,da,gr,ed,l,rfl,he,k1,k2,k3,k4,_⟩:=k;obtain⟨a1,c1,rfl⟩:=a0B k1.own;obtain⟨a2,c2,rfl⟩:=a0B k2.own;obtain⟨a3,c3,rfl⟩:=a0B k3.own;obtain⟨a4,c4,rfl⟩:=a0B k4.own;obtain⟨cc',hfl,hC⟩:=h.step hi (D.step bd st) st;refine⟨l,a1,a2,a3,a4,c1,c2,c3,c4,rfl,he,⟨cc',hC.dg,hC.pp,hC.ks,fun x hx=>?_,fun x hx=>?_,hC.lt,hC.ev,hC.bl,hC.nb⟩,st.size⟩
 ·rcases List.mem_cons.1 hx with rfl|hx
  ·exact k1.flat hfl
  ·exact hC.es x hx
 ·rcases List.mem_cons.1 hx with rfl|hx
  ·exact k2.orow hfl
  ·rcases List.mem_cons.1 hx with rfl|hx
   ·exact k3.orow hfl
   ·rcases List.mem_cons.1 hx with rfl|hx
    ·exact k4.orow hfl
    ·exact hC.rs x hx
theorem CM.line{ds:List Dsk}{rs:List OR}(h:CM X W ds ks es rs)(i:Nat)(hi:ds[i]?=some (p,dk,s)){l:Desk.a7U}(hr:Reads t v)(hv:LV v l)(hl:Desk.a1O l){q:St × Rep}(hq:a1q s l=q):
  Calls Tryz.prog 21 #[.pointer (some ⟨p,0,none⟩),.string t] W fun e W'=>MDo X W ds i p dk ks es rs q e W':=by
 subst hq;obtain⟨cc,h⟩:=h;obtain⟨r,D⟩:=h.dg i _ hi;exact (b7q D.bd t hr hv hl).mono fun _ _ ⟨_,e,k⟩=>by rw[e];exact f2I h hi D k
theorem CM.few{ds:List Dsk}{rs:List OR}(h:CM X W ds ks es rs)(i:Nat)(hi:ds[i]?=some (p,dk,s)){l:Desk.a7U}(hr:Reads t v)(hv:LV v l)(hl:Desk.a1O l)(hf:g5r l=true){q:St × Rep}(hq:a1q s l=q):
  Calls Tryz.prog 21 #[.pointer (some ⟨p,0,none⟩),.string t] W fun e W'=>MDo X W ds i p dk ks es rs q e W':=by
 subst hq;obtain⟨cc,h⟩:=h;obtain⟨r,D⟩:=h.dg i _ hi;exact (g3L D.bd t hr hv hl hf).mono fun _ _ ⟨_,e,k⟩=>by rw[e];exact f2I h hi D k
theorem CM.begin{ds:List Dsk}{rs:List OR}(h:CM X W ds ks es rs)(a b:Int)(ha:1<=a/\a<=9)(hb:1<=b/\b<=9):
  Calls Tryz.prog 18 #[.agg #[.int .i64 a,.int .i64 b]] W fun e W'=>∃ p dk,e=.returned (.tuple #[.pointer (some ⟨p,0,none⟩),.bool true])/\W.heap.size<=p/\p<W'.heap.size/\CM X W' (ds++[(p,dk,a3Z a b)]) ks es rs:=by
 obtain⟨cc,h⟩:=h;refine (f0a W h.ev a b ha hb).mono ?_;rintro e W' ⟨p,dk,r,col,rfl,D,hp⟩;have hk:Below W.heap.size W W':=D.bl
 let cc':Nat->Option (Nat × Col):=fun k=>match col k with
  |some c=>some (ds.length,c)
  |none=>cc k
 have c1:∀ {k c},col k=some c->cc' k=some (ds.length,c):=fun {k c} e=>by show (match col k with|some c=>some (ds.length,c)|none=>cc k)=_;rw[e]
 have c0:∀ {k},col k=none->cc' k=cc k:=fun {k} e=>by show (match col k with|some c=>some (ds.length,c)|none=>cc k)=_;rw[e]
 have lo2:∀ {k c},col k=some c->W.heap.size<=k:=fun {k c} e=>Nat.le_of_not_lt fun hl=>by rw[D.lo k hl] at e;cases e
 have low:∀ k,k<W.heap.size->cc' k=cc k:=fun k hl=>c0 (D.lo k hl)
 have hoth:∀ j,j<ds.length->d1l cc' j=d1l cc j:=fun j hj=>funext fun k=>by
  cases e:col k with
  |none=>unfold d1l;rw[c0 e]
  |some c =>
   rw[d1U (i:=j) (h.lt k (lo2 e))]
   cases e2:d1l cc' j k with
   |none=>rfl
   |some c2 =>
    have:=c8K.1 e2;rw[c1 e] at this;simp only[Option.some.injEq,Prod.mk.injEq] at this;omega
 have hself:d1l cc' ds.length=col:=funext fun k=>by
  cases e:col k with
  |some c=>exact c8K.2 (c1 e)
  |none =>
   cases e2:d1l cc' ds.length k with
   |none=>rfl
   |some c =>
    have e3:=c8K.1 e2;rw[c0 e] at e3;have:=h.nb k _ e3;simp at this
 have ST:Step anyS W.heap.size (d1J cc) (d1J cc') W W':=by
  refine⟨⟨[],Off.of_below hk,by simp⟩,fun k c e=>?_,fun k c e=>?_⟩
  ·have hl:k<W.heap.size:=Nat.lt_of_not_le fun hl=>by rw[d4S (h.lt k hl)] at e;cases e
   unfold d1J at e ⊢;rw[low k hl];exact e
  ·by_cases hl:k<W.heap.size
   ·unfold d1J at e ⊢;rw[low k hl] at e;exact .inl e
   ·exact .inr (Nat.le_of_not_lt hl)
 have pl:p<W'.heap.size:=(Array.getElem?_eq_some_iff.1 D.bd.pc).1;refine⟨p,dk,rfl,hp,pl,cc',fun j d hj=>?_,fun d hd=>?_,fun q hq=>(h.ks q hq).step ST,fun q hq=>(h.es q hq).step ST (zq _),fun q hq=>(h.rs q hq).step ST,fun k hk'=>?_,D.bd.env,h.bl.trans (hk.mono h.bl.size),fun k q hq=>?_⟩
 ·by_cases hl:j<ds.length
  ·rw[List.getElem?_append_left hl] at hj;obtain⟨r2,D2⟩:=h.dg j d hj;exact⟨r2,by rw[hoth j hl];exact D2.later hk⟩
  ·have hj2:j<(ds++[(p,dk,a3Z a b)]).length:=(List.getElem?_eq_some_iff.1 hj).1;rw[List.length_append] at hj2;have e:j=ds.length:=by simp at hj2;omega
   subst e;rw[List.getElem?_append_right (zq _)] at hj;simp only[Nat.sub_self,List.getElem?_cons_zero,Option.some.injEq] at hj;subst hj;refine⟨r,?_⟩;rw[hself];exact⟨D.bd,h.bl.trans (hk.mono h.bl.size),fun x hx=>D.lo x (zL hx h.bl.size)⟩
 ·rcases List.mem_append.1 hd with hd|hd
  ·obtain⟨j,hj,ej⟩:=List.getElem_of_mem hd;obtain⟨r2,D2⟩:=h.dg j d (by rw[List.getElem?_eq_getElem hj,ej]);rw[low d.1 (Array.getElem?_eq_some_iff.1 D2.bd.pc).1];exact h.pp d hd
  ·rw[List.mem_singleton.1 hd];rw[c0 D.bd.pn];exact h.lt p hp
 ·rw[c0 (D.none hk')];exact h.lt k (zt hk.size hk')
 ·rw[List.length_append]
  cases e:col k with
  |none=>rw[c0 e] at hq;have:=h.nb k q hq;simp;omega
  |some c =>
   rw[c1 e] at hq;simp only[Option.some.injEq] at hq;subst hq;simp
theorem CM.put{ds:List Dsk}{rs:List OR}{o':Obj}(h:CM X W ds ((b,o) :: ks) [] rs)(h10:10<=X.heap.size)(hX:X.heap.size<=b)(hp:∀ d∈ds,d.1≠b)(hn:∀ q∈ks,q.1≠b)(hr:∀ q∈rs,∀ c,q.v.ownBlock=some c->c≠b)(k:Off [b] W W')(hb:W'.heap[b]?=some o'):CM X W' ds ((b,o') :: ks) [] rs:=by
 obtain⟨cc,h⟩:=h;have hk0:=h.ks (b,o) (List.mem_cons_self ..)
 have hc:cc b=none:=by
  have:=hk0.c;unfold d1J at this
  cases e:cc b with
  |none=>rfl
  |some q=>rw[e] at this;cases this
 have kb:∀ N,N<=X.heap.size->Below N W W':=fun N hN=>⟨k.os,k.tape,k.output,k.size,fun x hx=>k.block x (zL hx (zt hN h.bl.size)) (by simp;omega)⟩
 have he:Env W':=h.ev.ten (kb 10 h10);have hbl:Below X.heap.size X W':=h.bl.trans (kb _ (zq _));refine⟨cc,fun i d hd=>?_,h.pp,fun q hq=>?_,by simp,fun q hq=>⟨a1i (h.rs q hq).own k (fun c hc=>by simp;exact hr q hq c hc),(h.rs q hq).no⟩,fun x hx=>h.lt x (zt k.size hx),he,hbl,h.nb⟩
 ·obtain⟨r,D⟩:=h.dg i d hd;exact⟨r,⟨⟨(k.block d.1 (Array.getElem?_eq_some_iff.1 D.bd.pc).1 (by simp;exact hp d (List.mem_of_getElem? hd))).trans D.bd.pc,D.bd.pn,⟨D.bd.ds.dk.off k (fun x hx=>by have:x=b:=List.mem_singleton.1 hx;subst this;exact d1U hc),D.bd.ds.of,D.bd.ds.wl,D.bd.ds.hl,D.bd.ds.inv⟩,he,D.bd.gl⟩,hbl,D.lo⟩⟩
 ·rcases List.mem_cons.1 hq with rfl|hq
  ·exact⟨hb,d4S hc⟩
  ·have h2:=h.ks q (List.mem_cons_of_mem _ hq);exact⟨(k.block q.1 (Array.getElem?_eq_some_iff.1 h2.h).1 (by simp;exact hn q hq)).trans h2.h,h2.c⟩
theorem CM.next{ds:List Dsk}{rs:List OR}{F a:Nat}(h:CM X W ds ((F,a8o t a) :: ks) [] rs)(h10:10<=X.heap.size)(hX:X.heap.size<=F)(hp:∀ d∈ds,d.1≠F)(hn:∀ q∈ks,q.1≠F)(hr:∀ q∈rs,∀ c,q.v.ownBlock=some c->c≠F)(ha:a<=t.size)(hs:t.size<=9223372036854775807)(n:Int)(h1:1<=n)(h2:n<=1000):
  Calls Tryz.prog 26 #[.pointer (some ⟨F,0,none⟩),.int .i64 n] W fun e W'=>∃ (v:Int) (a':Nat),e=.returned (.int .i64 v)/\0<=v/\v<n/\a'<=t.size/\CM X W' ds ((F,a8o t a') :: ks) [] rs:=by
 have hf:FW W F t W:=⟨⟨a,h.kb (List.mem_cons_self ..),ha,hs⟩,h.env,Off.refl _ _,Nat.le_trans h10 hX⟩;refine (a1h hf n h1 h2).mono ?_;rintro e W' ⟨v,rfl,v0,v1,kf⟩;obtain⟨a',fd⟩:=kf.fd;exact⟨v,a',rfl,v0,v1,fd.le,h.put h10 hX hp hn hr kf.off fd.b⟩
open Desk (Ent)
theorem b1y(L:List (Int × Int))(u v:Value)(w:World)(hu:SV w u L)(hv:SV w v L)(hl:L.length<=1000000):
  Calls Tryz.prog 31 #[u,v] w fun e w'=>e=.returned (.bool true)/\Below w.heap.size w w':=by
 obtain⟨a,ca,rfl⟩:=hu.form;obtain⟨b,cb,rfl⟩:=hv.form;have HU:=a0b hu;have HV:=a0b hv;clear hu hv;have hb:((L.length:Int) != (L.length:Int))=false:=by simp
 go_enter Tryz.func31,Tryz.ntmps31
 go_wp2_with fail
 go_loopw [5] (fun v wr=>∃ k:Nat,k<=L.length/\v=.int .i64 k/\Below w.heap.size w wr) (fun v _=>L.length-(intOf v).toNat)
 case atStart=>exact⟨0,Nat.zero_le _,rfl,Below.refl _ _⟩
 case round =>
  obtain⟨k,hk,rfl,hbl⟩:=hrel;have HB:=a0b hbl;clear hbl
  by_cases hlt:k<L.length
  ·have hlt':(k:Int)<(L.length:Int):=by omega
   obtain⟨g,cap,e,a0,a1⟩:=(HU.out.later HB.out).cell k hlt;simp only[Value.slice.injEq,true_and] at e;obtain⟨rfl,rfl⟩:=e;obtain⟨g2,cap2,e,b0,b1⟩:=(HV.out.later HB.out).cell k hlt;simp only[Value.slice.injEq,true_and] at e;obtain⟨rfl,rfl⟩:=e;generalize L[k].1=x at *;generalize L[k].2=y at *
   go_upto_region 6 with fail
   go_big_region
   have HBd:=a0b (HB.out.drew);clear HB
   go_wp2_with fail
   go_roundw
   case rel=>exact⟨k+1,by omega,by go_num,HBd.out⟩
   case measure=>simp[intOf];omega
  ·have hlt':¬ (k:Int)<(L.length:Int):=by omega
   go_wp2_with fail
   go_ret;exact⟨rfl,HB.out⟩
theorem a9Q{w w':World}(h:Below B w w')(n:Nat):Below B w (w'.drewN n):=⟨h.os,h.tape,h.output,h.size,h.block⟩
theorem a8V(l m:List (Ent × Value))(u v:Value)(w:World)(hu:EV w u l)(hv:EV w v m)(he:l.map (·.1)=m.map (·.1))(hl:l.length<=1000)(hs:∀ p∈l,p.1.a0e.length<=1000):
  Calls Tryz.prog 29 #[u,v] w fun e w'=>e=.returned (.bool true)/\Below w.heap.size w w':=by
 obtain⟨a,ca,rfl⟩:=hu.form;obtain⟨b,cb,rfl⟩:=hv.form;have hlen:m.length=l.length:=by have:=congrArg List.length he;simpa using this.symm
 have AT:Hid (∀ (k:Nat) (h:k<l.length) (h':k<m.length),m[k].1=l[k].1):=fun k h h'=>by
  have:=congrArg (fun x=>x[k]?) he;simp only[List.getElem?_map,List.getElem?_eq_getElem h,List.getElem?_eq_getElem h',Option.map_some] at this;exact (Option.some.inj this).symm
 have HU:=a0b hu;have HV:=a0b hv;have HS:=a0b hs;rw[hlen];clear hu hv he hs;have hb:((l.length:Int) != (l.length:Int))=false:=by simp
 go_enter Tryz.func29,Tryz.ntmps29
 go_wp2_with fail
 go_loopw [5,6] (fun v _ wr=>∃ k:Nat,k<=l.length/\v=.int .i64 k/\Below w.heap.size w wr) (fun v _ _=>l.length-(intOf v).toNat)
 case atStart=>exact⟨0,Nat.zero_le _,rfl,Below.refl _ _⟩
 case round =>
  obtain⟨k,hk,rfl,hbl⟩:=hrel;have HB:=a0b hbl;clear hbl
  by_cases hlt:k<l.length
  ·have hlt':(k:Int)<(l.length:Int):=by omega
   have hmt:k<m.length:=by omega
   obtain⟨g,cap,e,a0,a1,a2,a3,a4,a5⟩:=(HU.out.later HB.out).cell k hlt;simp only[Value.slice.injEq,true_and] at e;obtain⟨rfl,rfl⟩:=e;obtain⟨g2,cap2,e,b0,b1,b2,b3,b4,b5⟩:=(HV.out.later HB.out).cell k hmt;simp only[Value.slice.injEq,true_and] at e;obtain⟨rfl,rfl⟩:=e;have s1:=(HU.out.later HB.out).sp l[k] (zg hlt);have s2:=(HV.out.later HB.out).sp m[k] (zg hmt);rw[AT.out k hlt hmt] at b0 b1 b2 b3 b5 s2;have SP:=a0b (fun W' (q:Below wr.heap.size wr W')=>b1y l[k].1.a0e l[k].2 m[k].2 W' (s1.later q) (s2.later q) (by have:=HS.out l[k] (zg hlt);omega));obtain⟨f1,f2,e1⟩:=s1.form;obtain⟨f3,f4,e2⟩:=s2.form;rw[e1] at a4 SP;rw[e2] at b4 SP;clear s1 s2 e1 e2;generalize l[k].1=x at *;have n0:(x.id != x.id)=false:=by simp
   have n1:(x.kind != x.kind)=false:=by simp
   have n3:(x.a0c != x.a0c)=false:=by simp
   have n5:(x.a0Z != x.a0Z)=false:=by simp
   have HBd:=a0b (HB.out.drew);have SS:Hid (∀ W',Below wr.drew.heap.size wr.drew W'->W'.cell? ⟨g,k*6,none⟩=some (.int .i64 x.id)/\W'.cell? ⟨g,k*6+1,none⟩=some (.int .i64 x.kind)/\W'.cell? ⟨g,k*6+2,none⟩=some (.string x.a0k)/\W'.cell? ⟨g,k*6+3,none⟩=some (.int .i64 x.a0c)/\W'.cell? ⟨g,k*6+4,none⟩=some (.slice f1 x.a0e.length f2)/\W'.cell? ⟨g,k*6+5,none⟩=some (.int .i64 x.a0Z)/\W'.cell? ⟨g2,k*6,none⟩=some (.int .i64 x.id)/\W'.cell? ⟨g2,k*6+1,none⟩=some (.int .i64 x.kind)/\W'.cell? ⟨g2,k*6+2,none⟩=some (.string x.a0k)/\W'.cell? ⟨g2,k*6+3,none⟩=some (.int .i64 x.a0c)/\W'.cell? ⟨g2,k*6+4,none⟩=some (.slice f3 x.a0e.length f4)/\W'.cell? ⟨g2,k*6+5,none⟩=some (.int .i64 x.a0Z)):=fun W' q=>⟨a0a q a0,a0a q a1,a0a q a2,a0a q a3,a0a q a4,a0a q a5,a0a q b0,a0a q b1,a0a q b2,a0a q b3,a0a q b4,a0a q b5⟩
   clear HB
   go_upto_region 6 with fail
   go_region_held3 (fun W'=>W'.cell? ⟨g,k*6,none⟩=some (.int .i64 x.id)/\W'.cell? ⟨g,k*6+1,none⟩=some (.int .i64 x.kind)/\W'.cell? ⟨g,k*6+2,none⟩=some (.string x.a0k)/\W'.cell? ⟨g,k*6+3,none⟩=some (.int .i64 x.a0c)/\W'.cell? ⟨g,k*6+4,none⟩=some (.slice f1 x.a0e.length f2)/\W'.cell? ⟨g,k*6+5,none⟩=some (.int .i64 x.a0Z)/\W'.cell? ⟨g2,k*6,none⟩=some (.int .i64 x.id)/\W'.cell? ⟨g2,k*6+1,none⟩=some (.int .i64 x.kind)/\W'.cell? ⟨g2,k*6+2,none⟩=some (.string x.a0k)/\W'.cell? ⟨g2,k*6+3,none⟩=some (.int .i64 x.a0c)/\W'.cell? ⟨g2,k*6+4,none⟩=some (.slice f3 x.a0e.length f4)/\W'.cell? ⟨g2,k*6+5,none⟩=some (.int .i64 x.a0Z))
    (first
     |with_reducible exact SS.out _ HB6.out
     |exact⟨a0,a1,a2,a3,a4,a5,b0,b1,b2,b3,b4,b5⟩)
    (first
     |(go_at_call 31;refine (SP.out _ (a0q _)).mono ?_;rintro e w6 ⟨rfl,hb6⟩;have HB6:=a0b hb6;clear hb6))
   have HF:Hid (Below w.heap.size w w6):=a0j HBd.out HB6.out (zq _);obtain⟨c0,c1,c2,c3,c4,c5,d0,d1,d2,d3,d4,d5⟩:=SS.out _ HB6.out;clear HB6 HBd SS SP a0 a1 a2 a3 a4 a5 b0 b1 b2 b3 b4 b5;have n2:(x.a0k.toList != x.a0k.toList)=false:=by simp
   have n2':(x.a0k.toList==x.a0k.toList)=true:=by simp
   go_upto_region 7 with fail
   go_quiet (fail)
   go_wp2_with fail
   go_roundw
   case rel=>exact⟨k+1,by omega,by go_num,a9Q HF.out _⟩
   case measure=>simp[intOf];omega
  ·have hlt':¬ (k:Int)<(l.length:Int):=by omega
   go_wp2_with fail
   go_ret;exact⟨rfl,HB.out⟩
open Desk (Ent St Inv a1q Rep)
theorem d9f:Reads (⟨#[119,97,105,116,105,110,103]⟩:ByteArray) (.iface 173 (.agg #[])):=by
 have hw:Txt.a1v (⟨#[119,97,105,116,105,110,103]⟩:ByteArray)=[a5q]:=by
  refine Txt.a5p ?_ ?_
  ·simp only[List.map_cons,List.map_nil,Txt.b3k];rfl
  ·intro x hx;rw[List.mem_singleton.1 hx]
   decide +kernel
 exact a5G (n:=1) hw (by decide) (a2H.waiting (b1P (x:=a5q) rfl)) rfl
theorem d5K(h:Inv s):a1q s .waiting=(s,⟨0,0,0,s.es.filter (fun e=>e.kind==3),[],[],[]⟩):=by
 have e:Desk.a0g s .waiting=(s,⟨0,0,0,s.es.filter (fun e=>e.kind==3),[],[],[]⟩):=rfl;rw[Desk.a8T h (by rw[e]),e]
theorem e4h:Reads (⟨#[99,108,111,99,107]⟩:ByteArray) (.iface 183 (.agg #[])):=by
 have hw:Txt.a1v (⟨#[99,108,111,99,107]⟩:ByteArray)=[b1c]:=by
  refine Txt.a5p ?_ ?_
  ·simp only[List.map_cons,List.map_nil,Txt.b3k];rfl
  ·intro x hx;rw[List.mem_singleton.1 hx]
   decide +kernel
 exact a5G (n:=1) hw (by decide) (a2H.clock (b1P (x:=b1c) rfl)) rfl
theorem e7G(h:Inv s):a1q s .clock=(s,Rep.num s.now):=by
 have e:Desk.a0g s .clock=(s,Rep.num s.now):=rfl;rw[Desk.a8T h (by rw[e]),e]
end Go.Proofs.YtfigmlfdnickmaaGreatDoor
