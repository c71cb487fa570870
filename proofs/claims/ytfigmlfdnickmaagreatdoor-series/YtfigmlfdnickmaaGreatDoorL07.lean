import Derived.Test.YtfigmlfdnickmaaGreatDoorL06
set_option maxRecDepth 100000
set_option maxHeartbeats 8000000
variable{name:ByteArray}{e z:Go.Proofs.YtfigmlfdnickmaaGreatDoor.Desk.Ent}{a b fr id level long tq x y:Int}{f:Int->Int}{ts:List (ByteArray × Int)}{L:List (Int × Int)}{es l:List Go.Proofs.YtfigmlfdnickmaaGreatDoor.Desk.Ent}{fs:List Int}{i j n:Nat}{r:Option Int}{c0 c1 c2 c3 c4 c5:Go.Value}{w:Go.World}
namespace Go.Proofs.YtfigmlfdnickmaaGreatDoor
open Go.RowKit
namespace Desk
def b5k:List Ent->List Int
 |[]=>[]
 |e :: r=>e.a0e.map (·.2)++b5k r
theorem e4Y(l r:List Ent):b5k (l++r)=b5k l++b5k r:=by
 induction l with
 |nil=>rfl
 |cons e l ih=>simp only[List.cons_append,b5k,ih,List.append_assoc]
def a3O(ts:List (ByteArray × Int))(es:List Ent)(name:ByteArray)(a0c long fr til best s:Int):Int :=
 if s<fr\/til<s+long\/(0<=best/\best<=s) then best else if a1e ts es name a0c [(s,s+long)] then s else best
def a9A(ts:List (ByteArray × Int))(es:List Ent)(name:ByteArray)(a0c long fr til:Int):Int:=(fr :: b5k es).foldl (a3O ts es name a0c long fr til) (-1)
def g0K(es:List Ent):Prop:=∀ e∈es,∀ s∈e.a0e,0<=s.2/\s.2<=2000000
theorem e4X(l:List Ent)(h:∀ e∈l,Small e):(b5k l).length<=100*l.length:=by
 induction l with
 |nil=>simp[b5k]
 |cons e l ih =>
  have i:=ih (fun x hx=>h x (by simp[hx]));have s:=(h e (by simp)).sl;simp only[b5k,List.length_append,List.length_cons,List.length_map];omega
theorem f6a(l:List Ent)(h:g0K l):∀ x∈b5k l,0<=x/\x<=2000000:=by
 induction l with
 |nil=>simp[b5k]
 |cons e l ih =>
  intro x hx;simp only[b5k,List.mem_append,List.mem_map] at hx;rcases hx with ⟨s,hs,rfl⟩|hx
  ·exact h e (by simp) s hs
  ·exact ih (fun e he=>h e (by simp[he])) x hx
end Desk
def d3q(fr:Int)(l:List Desk.Ent)(e:Desk.Ent)(j:Nat):List Int:=fr :: (Desk.b5k l++(e.a0e.take j).map (·.2))
theorem f9W(d:Nat)(a:Option Addr)(cap E:Nat)(es:List Desk.Ent)(at_:Option Addr)(ct G:Nat)(ts:List (ByteArray × Int))(name:ByteArray)(a0c long fr til:Int)(w:World)(h:RDE w d a cap E es)(ht:RDT w d at_ ct G ts)(hl:es.length<=1000)(htl:ts.length<=1000)(hs:∀ e∈es,Desk.Small e)(he:Desk.g0K es)(hu0:0<=a0c)(hu1:a0c<=9)(hl0:0<=long)(hl1:long<=2000000)(hf0:0<=fr)(hf1:fr<=2000000):
  Calls Tryz.prog 237 #[.pointer (some ⟨d,0,none⟩),.string name,.int .i64 a0c,.int .i64 long,.int .i64 fr,.int .i64 til] w fun e w'=>e=.returned (.int .i64 (Desk.a9A ts es name a0c long fr til))/\Below w.heap.size w w':=by
 obtain⟨i0,hi0,hz0,hz1,hz2⟩:=info_parts b1S;have FT:=a0b (fun w' (k:Below w.heap.size w w') B cb L hL hll=>f0u d a cap E es at_ ct G ts name a0c B cb L w' (h.later k) (ht.later k) hL hl htl hs hll hu0 hu1);have H:=a0b h;have HS:=a0b hs;have sz:=Desk.e4X es hs
 have hmem:Hid (∀ x∈fr :: Desk.b5k es,0<=x/\x<=2000000):=by
  intro x hx;rcases List.mem_cons.1 hx with rfl|hx
  ·exact⟨hf0,hf1⟩
  ·exact Desk.f6a es he x hx
 have hfn:Desk.a9A ts es name a0c long fr til=(fr :: Desk.b5k es).foldl (Desk.a3O ts es name a0c long fr til) (-1):=rfl;rw[hfn];obtain⟨l,hl2⟩:∃ l,fr :: Desk.b5k es=l:=⟨_,rfl⟩;have eln:l.length<=100100:=by rw[<- hl2,List.length_cons];omega
 rw[hl2] at hmem ⊢;have HL2:=a0b hl2;clear h ht hs he hfn hl2
 go_enter Tryz.func237,Tryz.ntmps237
 go_wp2_with fail
 have o0:(w.alloc (.cells #[.int .i64 fr] 3)).ownsRow w.heap.size 3 1 (.slice (some ⟨w.heap.size,0,none⟩) 1 1) 1 ([fr].map (Value.int .i64)) :=
  ⟨rfl,.inr ⟨w.heap.size,1,#[.int .i64 fr],rfl,Nat.le_refl _,a0p _ _,Nat.le_refl _,by unfold maxLen;omega,rfl,rfl⟩⟩
 have O0:=a0b (zA o0 ((zr _ w).alloc (zq _) (.cells #[.int .i64 fr] 3)));clear o0
 go_loopw [13,14,15] (fun v i _ wx=>∃ k:Nat,k<=es.length/\i=.int .i64 k/\wx.ownsRow w.heap.size 3 1 v (fr :: Desk.b5k (es.take k)).length ((fr :: Desk.b5k (es.take k)).map (Value.int .i64))/\Below w.heap.size w wx) (fun _ i _ _=>es.length-(intOf i).toNat)
 case atStart=>exact⟨0,Nat.zero_le _,rfl,O0.out.1,O0.out.2⟩
 case round =>
  obtain⟨k,hk,rfl,hown,hb⟩:=hrel;have bl:=List.length_take_le k es;have hx:=H.out.later hb;have cc:=hx.c;have sz2:=Desk.e4X (es.take k) (fun e he=>HS.out e (List.mem_of_mem_take he))
  by_cases hlt:k<es.length
  ·obtain rfl:=H.out.at hlt;obtain⟨B,cp,hr0⟩:=H.out.r k hlt;have c4:=(hr0.later hb).c4;have hsm:=HS.out es[k] (zg hlt);have hi:(k:Int)<(es.length:Int):=by omega
   have e:fr :: Desk.b5k (es.take (k+1))=fr :: (Desk.b5k (es.take k)++es[k].a0e.map (·.2)):=by
    rw[List.take_succ_eq_append_getElem hlt,Desk.e4Y];simp[Desk.b5k]
   have EE:=a0b e;have sl:=hsm.sl;have R0:=a0b hr0;have HO:=a0b (zA hown hb);clear e hr0 hx hsm hown hb
   go_wp2_with fail
   go_loopw [13,15] (fun v i wx=>∃ j:Nat,j<=es[k].a0e.length/\i=.int .i64 j/\wx.ownsRow w.heap.size 3 1 v (d3q fr (es.take k) es[k] j).length ((d3q fr (es.take k) es[k] j).map (Value.int .i64))/\Below w.heap.size w wx) (fun _ i _=>es[k].a0e.length-(intOf i).toNat)
   case atStart=>exact⟨0,Nat.zero_le _,rfl,by rw[d3q];simpa using HO.out.1,HO.out.2⟩
   case round =>
    obtain⟨j,hj,rfl,hown,hb⟩:=hrel;clear cc c4;have cc:=(H.out.later hb).c;have c4:=(R0.out.later hb).c4;have HOB:=a0b (zA hown hb);have hbs2:=hb.size
    by_cases hjl:j<es[k].a0e.length
    ·have r1:=(R0.out.sl.later hb j hjl).2;have hi2:(j:Int)<(es[k].a0e.length:Int):=by omega
     have es1:d3q fr (es.take k) es[k] (j+1)=d3q fr (es.take k) es[k] j++[es[k].a0e[j].2]:=by
      unfold d3q;rw[List.take_succ_eq_append_getElem hjl,List.map_append,List.cons_append,List.append_assoc];rfl
     have ES:=a0b es1
     have eln2:(d3q fr (es.take k) es[k] j).length<=100*k+101:=by
      unfold d3q;have:=List.length_take_le j es[k].a0e;simp only[List.length_cons,List.length_append,List.length_map];omega
     clear es1 hb
     go_wp2_with (first
      |(at_builtin;refine wpList_append_own _ rfl _ _ 38 rfl w.heap.size 3 i0 (.int .i64 0) 1 8 Tryz.underlying38 hi0 hz0 hz1 hz2 rfl (by decide) _ _ _ rfl (hown.alloc _) ⟨wr.heap.size,0,none⟩ 1 1 [.int .i64 es[k].a0e[j].2] rfl rfl (World.news_of_block (cs:=#[.int .i64 es[k].a0e[j].2]) (a0p wr _)) (by simp[Value.oneCell']) (by unfold maxLen;omega) (by omega) (by simp;omega) ?_;intro v' w' hown' hgrow _))
     have hb':Below w.heap.size w w':=(HOB.out.2.alloc hbs2 _).grown hgrow (by simp;omega) (fun k hk=>d0G HOB.out.1 hk)
     have HK:Hid (w'.ownsRow w.heap.size 3 1 v' (d3q fr (es.take k) es[k] (j+1)).length ((d3q fr (es.take k) es[k] (j+1)).map (Value.int .i64))):=by
      show w'.ownsRow _ _ _ _ _ _;rw[ES.out,List.map_append,List.length_append];exact hown'
     have HB2:=a0b hb';clear hown' hgrow hb' hown HOB r1 cc c4
     go_wp2_with fail
     go_roundw
     case rel=>exact⟨j+1,by omega,by go_num,HK.out,HB2.out⟩
     case measure=>simp[intOf];omega
    ·have hi2:¬ (j:Int)<(es[k].a0e.length:Int):=by omega
     have hfin:d3q fr (es.take k) es[k] j=fr :: Desk.b5k (es.take (k+1)):=by
      have et:es[k].a0e.take j=es[k].a0e:=List.take_of_length_le (by omega);rw[EE.out,d3q,et]
     have HK:Hid (wr.ownsRow w.heap.size 3 1 u13 (fr :: Desk.b5k (es.take (k+1))).length ((fr :: Desk.b5k (es.take (k+1))).map (Value.int .i64))):=by
      show wr.ownsRow _ _ _ _ _ _;rw[<- hfin];exact hown
     clear hown hb hfin
     go_wp2_with fail
     go_roundw
     case rel=>exact⟨k+1,by omega,by go_num,HK.out,HOB.out.2⟩
     case measure=>simp[intOf];omega
  ·have e:es.take k=es:=List.take_of_length_le (by omega);have hi:¬ (k:Int)<(es.length:Int):=by omega
   rw[e,HL2.out] at hown;obtain⟨a2,c2,g2,rfl,hn2,ha2,hr2⟩:=e1E hown;have R2:=a0b (zA ha2 (zA hr2 hb));clear hown hb e ha2 hr2 hn2 HL2 hx O0
   go_wp2_with fail
   go_loopw [16,17,18,19] (fun b i _ _ wx=>∃ j:Nat,j<=l.length/\i=.int .i64 j/\b=.int .i64 ((l.take j).foldl (Desk.a3O ts es name a0c long fr til) (-1))/\Below w.heap.size w wx/\∀ (i:Nat) (hi:i<l.length),wx.cell? ⟨g2,i,none⟩=some (.int .i64 l[i])) (fun _ i _ _ _=>l.length-(intOf i).toNat)
   case atStart=>exact⟨0,Nat.zero_le _,rfl,rfl,R2.out.2.2,R2.out.2.1⟩
   case round =>
    obtain⟨j,hj,rfl,rfl,hb,hcell⟩:=hrel;have HBW:=a0b hb;have HC:=a0b hcell;clear hcell
    by_cases hjl:j<l.length
    ·obtain rfl:=R2.out.1 (by intro e;simp[e] at hjl);have c0:=HC.out j hjl;have hi2:(j:Int)<(l.length:Int):=by omega
     have hst:(l.take (j+1)).foldl (Desk.a3O ts es name a0c long fr til) (-1)=Desk.a3O ts es name a0c long fr til ((l.take j).foldl (Desk.a3O ts es name a0c long fr til) (-1)) l[j]:=by
      rw[List.take_succ_eq_append_getElem hjl,List.foldl_append];rfl
     have HST:=a0b hst;have hm:=hmem.out l[j] (zg hjl);generalize (l.take j).foldl (Desk.a3O ts es name a0c long fr til) (-1)=b at *;generalize l[j]=sx at *;have HPS:Hid (Desk.a3O ts es name a0c long fr til b sx=if sx<fr\/til<sx+long\/(0<=b/\b<=sx) then b else if Desk.a1e ts es name a0c [(sx,sx+long)] then sx else b):=rfl;clear hst hb
     by_cases hskip:sx<fr\/til<sx+long\/(0<=b/\b<=sx)
     ·have HE:Hid ((l.take (j+1)).foldl (Desk.a3O ts es name a0c long fr til) (-1)=b):=by show _=b;rw[HST.out,HPS.out,if_pos hskip]
      have hcs:sx<fr\/(¬ sx<fr/\til<sx+long)\/(¬ sx<fr/\¬ til<sx+long/\0<=b/\b<=sx):=by omega
      clear hskip;rcases hcs with q1|⟨q1,q2⟩|⟨q1,q2,q3,q4⟩
      all_goals
       go_wp2_with fail
       go_roundw
       case rel=>exact⟨j+1,by omega,by go_num,by rw[HE.out],HBW.out,HC.out⟩
       case measure=>simp[intOf];omega
     ·have hB:RSL (wr.alloc (.cells #[.int .i64 sx,.int .i64 (sx+long)] 60)) wr.heap.size [(sx,sx+long)]:=by
       intro i hi;have:i=0:=by simpa using hi
       subst this;exact⟨by simp,by simp⟩
      have hbX:Below w.heap.size w (wr.alloc (.cells #[.int .i64 sx,.int .i64 (sx+long)] 60)):=a0j HBW.out ((zr _ _).alloc (zq _) _) (zq _);have FT1:=a0b (FT.out _ hbX wr.heap.size 1 [(sx,sx+long)] hB (by simp));have HBX:=a0b hbX;have HCX:Hid (∀ (i:Nat) (hi:i<l.length),(wr.alloc (.cells #[.int .i64 sx,.int .i64 (sx+long)] 60)).cell? ⟨g2,i,none⟩=some (.int .i64 l[i])):=fun i hi=>a0a ((zr _ _).alloc (zq _) _) (HC.out i hi)
      have q1:¬ sx<fr:=by omega
      have q2:¬ til<sx+long:=by omega
      have hz:(wr.alloc (.cells #[.int .i64 sx,.int .i64 (sx+long)] 60)).heap.size=wr.heap.size+1:=by simp
      clear hB hbX hz
      cases hfit:Desk.a1e ts es name a0c [(sx,sx+long)]
      ·have HE:Hid ((l.take (j+1)).foldl (Desk.a3O ts es name a0c long fr til) (-1)=b):=by show _=b;rw[HST.out,HPS.out,if_neg hskip,hfit];rfl
       rw[hfit] at FT1;have hcs:b<0\/(0<=b/\sx<b):=by omega
       clear hskip hfit;rcases hcs with q3|⟨q3,q4⟩
       all_goals
        go_wp2_with fail
        refine FT1.out.mono ?_;rintro e w4 ⟨rfl,hb4⟩;have HB4:=a0b (zA (a0j HBX.out hb4 (zq _)) (fun i hi=>a0a hb4 (HCX.out i hi)));clear hb4 FT1
        go_wp2_with fail
        go_roundw
        case rel=>exact⟨j+1,by omega,by go_num,by rw[HE.out],HB4.out.1,HB4.out.2⟩
        case measure=>simp[intOf];omega
      ·have HE:Hid ((l.take (j+1)).foldl (Desk.a3O ts es name a0c long fr til) (-1)=sx):=by show _=sx;rw[HST.out,HPS.out,if_neg hskip,hfit];rfl
       rw[hfit] at FT1;have hcs:b<0\/(0<=b/\sx<b):=by omega
       clear hskip hfit;rcases hcs with q3|⟨q3,q4⟩
       all_goals
        go_wp2_with fail
        refine FT1.out.mono ?_;rintro e w4 ⟨rfl,hb4⟩;have HB4:=a0b (zA (a0j HBX.out hb4 (zq _)) (fun i hi=>a0a hb4 (HCX.out i hi)));clear hb4 FT1
        go_wp2_with fail
        go_roundw
        case rel=>exact⟨j+1,by omega,by go_num,by rw[HE.out],HB4.out.1,HB4.out.2⟩
        case measure=>simp[intOf];omega
    ·have e:l.take j=l:=List.take_of_length_le (by omega);have hi2:¬ (j:Int)<(l.length:Int):=by omega
     clear hb
     go_wp2_with fail
     go_ret;exact⟨a1L (by first|rfl|rw[e]),HBW.out⟩
namespace Desk
def a5V(a x:Int):List Int->Int
 |[]=>a
 |s :: r=>if s<=x/\a5V a x r<s then s else a5V a x r
theorem a6N(a x:Int)(h:a<=x):∀ l:List Int,a<=a5V a x l/\a5V a x l<=x/\(a5V a x l=a\/a5V a x l∈l)/\∀ s∈l,s<=x->s<=a5V a x l
 |[]=>⟨Int.le_refl _,h,.inl rfl,by simp⟩
 |s :: r=>by
  obtain⟨h1,h2,h3,h4⟩:=a6N a x h r;simp only[a5V]
  split
  ·rename_i c
   refine⟨by omega,c.1,.inr (by simp),fun t ht k=>?_⟩;rcases List.mem_cons.1 ht with rfl|ht
   ·omega
   ·have:=h4 t ht k;omega
  ·rename_i c
   refine⟨h1,h2,?_,fun t ht k=>?_⟩
   ·rcases h3 with h3|h3
    ·exact .inl h3
    ·exact .inr (by simp[h3])
   ·rcases List.mem_cons.1 ht with rfl|ht
    ·omega
    ·exact h4 t ht k
theorem a5Y(hyx:y<=x)(h:∀ s∈L,s.1<=x->s.1<=y):a0r L x<=a0r L y:=by
 unfold a0r;rw[<- List.countP_eq_length_filter,<- List.countP_eq_length_filter]
 have:List.countP (hasB x) L<=List.countP (hasB y) L:=List.countP_mono_left (fun s hs hb=>by
  simp[hasB] at hb ⊢;have:=h s hs hb.1
  omega)
 omega
def Pos(es:List Ent):Prop:=∀ e∈es,0<=e.a0c
theorem a5Z{name:ByteArray}{x y:Int}(hyx:y<=x):∀ {es:List Ent},Pos es->(∀ s∈a2L name es,s<=x->s<=y)->a0o name x es<=a0o name y es
 |[],_,_=>Int.le_refl _
 |e :: r,hp,h=>by
  have ih:=a5Z (name:=name) hyx (es:=r) (fun z hz=>hp z (by simp[hz])) (fun s hs=>h s (by simp[a2L,hs]));simp only[a0o]
  by_cases hb:ofB name e=true
  ·rw[if_pos hb,if_pos hb];have hs:a0y e.a0k name=true:=by simp[ofB] at hb;exact hb.1
   have hm:a0r e.a0e x<=a0r e.a0e y:=a5Y hyx (fun s hs' hx=>h s.1 (by simp[a2L,hs];exact .inl ⟨s.2,hs'⟩) hx);have hu:=hp e (by simp);have:a0r e.a0e x*e.a0c<=a0r e.a0e y*e.a0c:=Int.mul_le_mul_of_nonneg_right hm hu;omega
  ·rw[if_neg hb,if_neg hb];omega
theorem b7K(hp:Pos es)(h:a<=x):∃ y,a<=y/\y<=x/\(y=a\/y∈a2L name es)/\a0o name x es<=a0o name y es:=by
 obtain⟨h1,h2,h3,h4⟩:=a6N a x h (a2L name es);exact⟨_,h1,h2,h3,a5Z h2 hp h4⟩
theorem a4d{a0c:Int}(hp:Pos es)(hu:0<=a0c):
  a1e ts es name a0c L=true↔∀ x,0<a0r L x->a0o name x es+a0r L x*a0c<=a0h name ts:=by
 constructor
 ·intro h x hx
  have hex:∃ s∈L,s.1<=x/\x<s.2:=by
   unfold a0r at hx;have hl:0<(L.filter (hasB x)).length:=by omega
   obtain⟨s,hs⟩:=List.exists_mem_of_length_pos hl;have:=List.mem_filter.1 hs;simp[hasB] at this;exact⟨s,this.1,this.2⟩
  obtain⟨s0,hs0,k1,k2⟩:=hex;obtain⟨h1,h2,h3,h4⟩:=a6N s0.1 x k1 (a2L name es++L.map (·.1));generalize a5V s0.1 x (a2L name es++L.map (·.1))=y at h1 h2 h3 h4
  have hy:y∈a2L name es++L.map (·.1):=by
   rcases h3 with rfl|h3
   ·simp;exact .inr ⟨s0.2,hs0⟩
   ·exact h3
  have ht:=a5Z (name:=name) (es:=es) h2 hp (fun s hs=>h4 s (by simp[hs]));have hm:a0r L x<=a0r L y:=a5Y h2 (fun s hs=>h4 s.1 (by simp;exact .inr ⟨s.2,hs⟩));have hh:=List.all_eq_true.1 h y hy;simp[c4T] at hh;have hx':0<a0r L y:=by omega
  have hmu:a0r L x*a0c<=a0r L y*a0c:=Int.mul_le_mul_of_nonneg_right hm hu;omega
 ·intro h;unfold a1e c4e;rw[List.all_eq_true];intro x _;simp[c4T]
  by_cases hx:0<a0r L x
  ·exact .inr (h x hx)
  ·exact .inl (by omega)
theorem a7i(a b x:Int):a0r [(a,b)] x=if a<=x/\x<b then 1 else 0:=by
 unfold a0r
 by_cases h:a<=x/\x<b
 ·rw[if_pos h];simp[hasB,h.1,h.2]
 ·rw[if_neg h];have:hasB x (a,b)=false:=by simp[hasB];omega
  simp[this]
theorem a6S{a0c:Int}(hp:Pos es)(hu:0<=a0c):
  a1e ts es name a0c [(a,b)]=true↔∀ x,a<=x->x<b->a0o name x es+a0c<=a0h name ts:=by
 rw[a4d hp hu];constructor
 ·intro h x h1 h2;have:=h x (by rw[a7i,if_pos ⟨h1,h2⟩];omega);rw[a7i,if_pos ⟨h1,h2⟩] at this;omega
 ·intro h x hx;rw[a7i] at hx ⊢
  by_cases c:a<=x/\x<b
  ·rw[if_pos c];have:=h x c.1 c.2;omega
  ·rw[if_neg c] at hx;omega
def a9W(f:Int->Int)(a b m:Int):Prop:=(∀ x,a<=x->x<b->f x<=m)/\∃ x,a<=x/\x<b/\f x=m
theorem a9W.eq{m n:Int}(h:a9W f a b m)(k:a9W f a b n):m=n:=by
 obtain⟨h1,x,h2,h3,h4⟩:=h;obtain⟨k1,y,k2,k3,k4⟩:=k;have:=h1 y k2 k3;have:=k1 x h2 h3;omega
theorem b2U{name:ByteArray}{es:List Ent}{a b:Int}:∀ (l:List Int)(m:Int),
  m<=l.foldl (a2r name es a b) m/\(∀ x∈l,a<x->x<b->a0o name x es<=l.foldl (a2r name es a b) m)/\(l.foldl (a2r name es a b) m=m\/∃ x∈l,a<x/\x<b/\l.foldl (a2r name es a b) m=a0o name x es)
 |[],m=>⟨Int.le_refl _,by simp,.inl rfl⟩
 |x :: l,m=>by
  obtain⟨h1,h2,h3⟩:=b2U (name:=name) (es:=es) (a:=a) (b:=b) l (a2r name es a b m x);simp only[List.foldl_cons];generalize l.foldl (a2r name es a b) (a2r name es a b m x)=R at h1 h2 h3 ⊢
  have hs:(a2r name es a b m x=m/\¬ (a<x/\x<b/\m<a0o name x es))\/(a2r name es a b m x=a0o name x es/\a<x/\x<b/\m<a0o name x es):=by
   unfold a2r
   by_cases c:a<x/\x<b/\m<a0o name x es
   ·rw[if_pos c];exact .inr ⟨rfl,c⟩
   ·rw[if_neg c];exact .inl ⟨rfl,c⟩
  rcases hs with ⟨e,c⟩|⟨e,c⟩
  ·rw[e] at h1 h3;refine⟨h1,fun y hy k1 k2=>?_,?_⟩
   ·rcases List.mem_cons.1 hy with rfl|hy
    ·omega
    ·exact h2 y hy k1 k2
   ·rcases h3 with h3|⟨y,hy,k⟩
    ·exact .inl h3
    ·exact .inr ⟨y,by simp[hy],k⟩
  ·rw[e] at h1 h3;refine⟨by omega,fun y hy k1 k2=>?_,?_⟩
   ·rcases List.mem_cons.1 hy with rfl|hy
    ·omega
    ·exact h2 y hy k1 k2
   ·rcases h3 with h3|⟨y,hy,k⟩
    ·exact .inr ⟨x,by simp,c.1,c.2.1,h3⟩
    ·exact .inr ⟨y,by simp[hy],k⟩
theorem a6H(hp:Pos es)(h:a<b):a9W (fun x=>a0o name x es) a b (a1Q name es a b):=by
 obtain⟨h1,h2,h3⟩:=b2U (name:=name) (es:=es) (a:=a) (b:=b) (a2L name es) (a0o name a es);unfold a1Q;generalize (a2L name es).foldl (a2r name es a b) (a0o name a es)=R at h1 h2 h3 ⊢;refine⟨fun x k1 k2=>?_,?_⟩
 ·obtain⟨y,i1,i2,i3,i4⟩:=b7K (name:=name) hp k1;show a0o name x es<=R
  by_cases e:y=a
  ·subst e;omega
  ·rcases i3 with i3|i3
   ·exact absurd i3 e
   ·have:=h2 y i3 (by omega) (by omega);omega
 ·rcases h3 with h3|⟨x,_,k1,k2,k3⟩
  ·exact⟨a,Int.le_refl _,h,h3.symm⟩
  ·exact⟨x,by omega,k2,k3.symm⟩
theorem c0S{name:ByteArray}{x:Int}:∀ {es:List Ent},Pos es->a0o name x es<a0o name (x-1) es->x∈b5k es
 |[],_,h=>by simp[a0o] at h
 |e :: r,hp,h=>by
  simp only[b5k,List.mem_append,List.mem_map]
  by_cases c:∃ s∈e.a0e,s.2=x
  ·exact .inl c
  ·right;refine c0S (name:=name) (fun z hz=>hp z (by simp[hz])) ?_
   have hm:a0r e.a0e (x-1)<=a0r e.a0e x:=by
    unfold a0r;rw[<- List.countP_eq_length_filter,<- List.countP_eq_length_filter]
    have:List.countP (hasB (x-1)) e.a0e<=List.countP (hasB x) e.a0e:=List.countP_mono_left (fun s hs hb=>by
     simp[hasB] at hb ⊢;have:s.2≠x:=fun e=>c ⟨s,hs,e⟩
     omega)
    omega
   have hu:=hp e (by simp);have hmu:a0r e.a0e (x-1)*e.a0c<=a0r e.a0e x*e.a0c:=Int.mul_le_mul_of_nonneg_right hm hu;simp only[a0o] at h
   split at h <;> omega
def c6U(r:Int):Option Int:=if r<0 then none else some r
theorem a9z{ts:List (ByteArray × Int)}{es:List Ent}{name:ByteArray}{a0c long fr tq:Int}(h0:0<=fr):∀ (l:List Int)(b:Int),-1<=b ->
  (b=-1\/(fr<=b/\b+long<=tq/\a1e ts es name a0c [(b,b+long)]=true)) ->
  let R:=l.foldl (a3O ts es name a0c long fr tq) b
  (R=-1\/(fr<=R/\R+long<=tq/\a1e ts es name a0c [(R,R+long)]=true))/\-1<=R/\(0<=b->0<=R/\R<=b)/\∀ s∈l,fr<=s->s+long<=tq->a1e ts es name a0c [(s,s+long)]=true->0<=R/\R<=s
 |[],b,hb,h=>by
  refine⟨h,hb,fun k=>⟨k,Int.le_refl _⟩,by simp⟩
 |s :: l,b,hb,h=>by
  intro R
  have hs:a3O ts es name a0c long fr tq b s=b/\((s<fr\/tq<s+long\/(0<=b/\b<=s))\/a1e ts es name a0c [(s,s+long)]=false)\/a3O ts es name a0c long fr tq b s=s/\fr<=s/\s+long<=tq/\a1e ts es name a0c [(s,s+long)]=true/\(b<0\/s<b):=by
   unfold a3O
   by_cases c:s<fr\/tq<s+long\/(0<=b/\b<=s)
   ·rw[if_pos c];exact .inl ⟨rfl,.inl c⟩
   ·rw[if_neg c]
    cases hf:a1e ts es name a0c [(s,s+long)]
    ·exact .inl ⟨by simp,.inr rfl⟩
    ·exact .inr ⟨by simp,by omega,by omega,rfl,by omega⟩
  rcases hs with ⟨e,c⟩|⟨e,c1,c2,c3,c4⟩
  ·have ih:=a9z (ts:=ts) (es:=es) (name:=name) (a0c:=a0c) (long:=long) (tq:=tq) h0 l b hb h;have eR:R=l.foldl (a3O ts es name a0c long fr tq) b:=by show List.foldl _ _ _=_;rw[List.foldl_cons,e]
   rw[<- eR] at ih;obtain⟨i1,i2,i3,i4⟩:=ih;refine⟨i1,i2,i3,fun t ht k1 k2 k3=>?_⟩;rcases List.mem_cons.1 ht with rfl|ht
   ·rcases c with c|c
    ·have:=i3 (by omega);omega
    ·rw[k3] at c;cases c
   ·exact i4 t ht k1 k2 k3
  ·have ih:=a9z (ts:=ts) (es:=es) (name:=name) (a0c:=a0c) (long:=long) (tq:=tq) h0 l s (by omega) (.inr ⟨c1,c2,c3⟩);have eR:R=l.foldl (a3O ts es name a0c long fr tq) s:=by show List.foldl _ _ _=_;rw[List.foldl_cons,e]
   rw[<- eR] at ih;obtain⟨i1,i2,i3,i4⟩:=ih;have i3':=i3 (by omega);refine⟨i1,i2,fun k=>by omega,fun t ht k1 k2 k3=>?_⟩;rcases List.mem_cons.1 ht with rfl|ht
   ·exact i3'
   ·exact i4 t ht k1 k2 k3
theorem c2T(P:Int->Prop)(fr:Int):∀ (n:Nat)(s:Int),s=fr+n->P s->∃ r,fr<=r/\r<=s/\P r/\∀ t,fr<=t->t<r->¬ P t:=by
 intro n
 induction n using Nat.strongRecOn with
 |_ n ih =>
  intro s hs hP
  by_cases c:∃ t,fr<=t/\t<s/\P t
  ·obtain⟨t,k1,k2,k3⟩:=c;obtain⟨r,i1,i2,i3,i4⟩:=ih (t-fr).toNat (by omega) t (by omega) k3;exact⟨r,i1,by omega,i3,i4⟩
  ·exact⟨s,by omega,Int.le_refl _,hP,fun t k1 k2 k3=>c ⟨t,k1,k2,k3⟩⟩
theorem c3k{a0c:Int}(hp:Pos es)(hu:0<=a0c)(h0:0<=fr)(_hl:1<=long):
  -1<=a9A ts es name a0c long fr tq/\a8j (fun x=>a0o name x es) fr tq long (a0h name ts-a0c) (c6U (a9A ts es name a0c long fr tq)):=by
 have hr:∀ s,a4X (fun x=>a0o name x es) long (a0h name ts-a0c) s↔a1e ts es name a0c [(s,s+long)]=true:=by
  intro s;rw[a6S hp hu];constructor
  ·intro h x k1 k2;have:=h x k1 k2;have this:a0o name x es<=a0h name ts-a0c:=this;omega
  ·intro h x k1 k2;have:=h x k1 k2;show a0o name x es<=a0h name ts-a0c;omega
 obtain⟨h1,h2,_,h4⟩:=a9z (ts:=ts) (es:=es) (name:=name) (a0c:=a0c) (long:=long) (tq:=tq) h0 (fr :: b5k es) (-1) (Int.le_refl _) (.inl rfl);unfold a9A;generalize (fr :: b5k es).foldl (a3O ts es name a0c long fr tq) (-1)=R at h1 h2 h4 ⊢
 have key:∀ s,fr<=s->s+long<=tq->a1e ts es name a0c [(s,s+long)]=true->0<=R/\R<=s:=by
  intro s k1 k2 k3;obtain⟨r,i1,i2,i3,i4⟩:=c2T (fun s=>a1e ts es name a0c [(s,s+long)]=true) fr (s-fr).toNat s (by omega) k3
  have:r∈fr :: b5k es:=by
   by_cases e:r=fr
   ·simp[e]
   ·have hno:=i4 (r-1) (by omega) (by omega);have hin:=(a6S hp hu).1 i3
    have:∃ x,r-1<=x/\x<r-1+long/\a0h name ts<a0o name x es+a0c:=by
     apply Classical.byContradiction;intro hc;apply hno;apply (a6S hp hu).2;intro x j1 j2
     by_cases d:a0o name x es+a0c<=a0h name ts
     ·exact d
     ·exact absurd ⟨x,j1,j2,by omega⟩ hc
    obtain⟨x,j1,j2,j3⟩:=this
    have ex:x=r-1:=by
     by_cases d:r<=x
     ·have:=hin x d (by omega);omega
     ·omega
    subst ex;have:=hin r (Int.le_refl _) (by omega);exact List.mem_cons_of_mem _ (c0S (name:=name) hp (by omega))
  have:=h4 r this i1 (by omega) i3;omega
 refine⟨h2,?_⟩;unfold c6U
 split
 ·intro s k1 k2 k3;have:=key s k1 k2 ((hr s).1 k3);omega
 ·rcases h1 with h1|⟨i1,i2,i3⟩
  ·omega
  ·refine⟨i1,i2,(hr R).2 i3,fun s k1 k2 k3=>?_⟩;have:=key s k1 (by omega) ((hr s).1 k3);omega
theorem c1G{q:Option Int}(h:a8j f a b long level r)(k:a8j f a b long level q):r=q:=by
 cases r with
 |none =>
  cases q with
  |none=>rfl
  |some s=>exact absurd k.2.2.1 (h s k.1 k.2.1)
 |some s =>
  cases q with
  |none=>exact absurd h.2.2.1 (k s h.1 h.2.1)
  |some t =>
   obtain⟨h1,h2,h3,h4⟩:=h;obtain⟨k1,k2,k3,k4⟩:=k
   by_cases c:s<t
   ·exact absurd h3 (k4 s h1 c)
   ·by_cases d:t<s
    ·exact absurd k3 (h4 t k1 d)
    ·exact congrArg some (by omega)
theorem b4a{g:Int->Int}(h:a8j f a b long level r)(hfg:∀ x,a<=x->x<b->f x=g x):a8j g a b long level r:=by
 have key:∀ s,a<=s->s+long<=b->(a4X f long level s↔a4X g long level s):=by
  intro s k1 k2;constructor
  ·intro h x i1 i2;rw[<- hfg x (by omega) (by omega)];exact h x i1 i2
  ·intro h x i1 i2;rw[hfg x (by omega) (by omega)];exact h x i1 i2
 cases r with
 |none=>exact fun s k1 k2 k3=>h s k1 k2 ((key s k1 k2).2 k3)
 |some s =>
  obtain⟨h1,h2,h3,h4⟩:=h;exact⟨h1,h2,(key s h1 h2).1 h3,fun t k1 k2 k3=>h4 t k1 k2 ((key t k1 (by omega)).2 k3)⟩
end Desk
namespace Desk
def a1C(name:ByteArray):List Ent->List Bool->Int
 |[],_=>0
 |e :: r,p=>(if ofB name e then e.a0c*cnt e.a0e p else 0)+a1C name r p
theorem a8S(name:ByteArray)(l r:List Ent)(p:List Bool):a1C name (l++r) p=a1C name l p+a1C name r p:=by
 induction l with
 |nil=>simp[a1C]
 |cons e l ih=>simp only[List.cons_append,a1C,ih];omega
theorem b9s(h:ofB name e=true):a1z (a1C name es) e.a0e e.a0c=a1C name (es++[e]):=by
 funext p
 simp only[a1z,a8S,a1C,h,if_true];omega
theorem a7X(h:ofB name e=false):a1C name (es++[e])=a1C name es:=by
 funext p
 simp[a8S,a1C,h]
theorem a7j(name:ByteArray)(p:List Bool):∀ es:List Ent,(∀ e∈es,Small e)->0<=a1C name es p/\a1C name es p<=900*es.length
 |[],_=>by simp[a1C]
 |e :: r,h=>by
  have i:=a7j name p r (fun x hx=>h x (by simp[hx]));have s:=h e (by simp);have b:=b3P e.a0e p;have sl:=s.sl;have c:0<=e.a0c*cnt e.a0e p:=Int.mul_nonneg s.u0 b.1;have d:e.a0c*cnt e.a0e p<=9*100:=Int.mul_le_mul s.u1 (by omega) b.1 (by omega);simp only[a1C,List.length_cons]
  split <;> omega
theorem Small.pos(h:∀ e∈es,Small e):Pos es:=fun e he=>(h e he).u0
def a9U(es:List Ent):Prop:=∀ e∈es,∀ s∈e.a0e,s.1<s.2
theorem a4a(name:ByteArray){x:Int}(h0:0<=x)(h1:x<1048320):∀ es:List Ent,a9U es->b0i (a1C name es) x=a0o name x es
 |[],_=>by
  have:a1C name []=fun _=>0:=by funext p;rfl
  rw[this];exact Lev.b0h 20 0 1048320 x
 |e :: r,h=>by
  have ih:=a4a name h0 h1 r (fun z hz=>h z (by simp[hz]))
  by_cases hb:ofB name e=true
  ·have:a1C name (e :: r)=a1z (a1C name r) e.a0e e.a0c:=by funext p;simp only[a1C,a1z,hb,if_true];omega
   rw[this,b0G _ _ _ _ h0 h1 (h e (by simp)),ih];simp only[a0o,hb,if_true];have:((e.a0e.filter fun s=>decide (s.1<=x) && decide (x<s.2)).length:Int)=a0r e.a0e x:=rfl;rw[this,Int.mul_comm];omega
  ·have hb':ofB name e=false:=by simpa using hb
   have:a1C name (e :: r)=a1C name r:=by funext p;simp[a1C,hb']
   rw[this,ih];simp[a0o,hb']
theorem b8v{a0c u:Int}(hs:∀ e∈es,Small e)(hsp:a9U es)(hL:c1P L)(hu:0<=u)(hun:a0h name ts=a0c):
  a2V (a1z (a1C name es) L u) a0c L=a1e ts es name u L:=by
 have hA:∀ p,0<=a1z (a1C name es) L u p:=fun p=>by
  have:=(a7j name p es hs).1;have:=(b3P L p).1;have:0<=u*cnt L p:=Int.mul_nonneg hu this;unfold a1z;omega
 have hlev:∀ x,0<=x->x<1048320->b0i (a1z (a1C name es) L u) x=a0o name x es+a0r L x*u:=by
  intro x h0 h1;rw[b0G _ _ _ _ h0 h1 (fun s hs=>(hL s hs).2.1),a4a name h0 h1 es hsp];have:((L.filter fun s=>decide (s.1<=x) && decide (x<s.2)).length:Int)=a0r L x:=rfl;rw[this,Int.mul_comm]
 rw[Bool.eq_iff_iff,a4d (Small.pos hs) hu,hun];unfold a2V;rw[List.all_eq_true];constructor
 ·intro h x hx;have hl:0<(L.filter (hasB x)).length:=by unfold a0r at hx;omega
  obtain⟨s,hm⟩:=List.exists_mem_of_length_pos hl;have hm:=List.mem_filter.1 hm;have hb:=hm.2;simp[hasB] at hb;have k:=hL s hm.1;have:=of_decide_eq_true (h s hm.1);have m:=(b1G hA k.1 k.2.1 k.2.2).1 x hb.1 hb.2;rw[hlev x (by omega) (by omega)] at m;omega
 ·intro h s hs';have k:=hL s hs';obtain⟨_,x,m1,m2,m3⟩:=b1G hA k.1 k.2.1 k.2.2;rw[hlev x (by omega) (by omega)] at m3
  have hpos:0<a0r L x:=by
   unfold a0r;have:s∈L.filter (hasB x):=List.mem_filter.2 ⟨hs',by simp[hasB,m1,m2]⟩;have:=List.length_pos_of_mem this;omega
  have:=h x hpos;exact decide_eq_true (by omega)
theorem c0m(hs:∀ e∈es,Small e)(hsp:a9U es)(h0:0<=a)(h1:a<b)(h2:b<=1048320):b4T (a1C name es) (a,b)=a1Q name es a b:=by
 have m:=b1G (A:=a1C name es) (s:=(a,b)) (fun p=>(a7j name p es hs).1) h0 h1 h2;refine a9W.eq (f:=fun x=>a0o name x es) (a:=a) (b:=b) ⟨fun x k1 k2=>?_,?_⟩ (a6H (Small.pos hs) h1)
 ·have:=m.1 x k1 k2;rw[a4a name (by omega) (by have:x<b:=k2;omega) es hsp] at this;exact this
 ·obtain⟨x,k1,k2,k3⟩:=m.2;rw[a4a name (by have:a<=x:=k1;omega) (by have:x<b:=k2;omega) es hsp] at k3;exact⟨x,k1,k2,k3⟩
def c3V:Option Int->Int
 |none=>-1
 |some s=>s
theorem b9G{a0c:Int}(hs:∀ e∈es,Small e)(hsp:a9U es)(h0:0<=a)(h2:b<=1048320)(hu:0<=a0c)(hl:1<=long)(h:a8j (Lev.lev (b1M (a1C name es)) 0 1048320) a b long (a0h name ts-a0c) r):
  a9A ts es name a0c long a b=c3V r:=by
 obtain⟨k1,k2⟩:=c3k (ts:=ts) (es:=es) (name:=name) (a0c:=a0c) (long:=long) (fr:=a) (tq:=b) (Small.pos hs) hu h0 hl;have h':=b4a h (g:=fun x=>a0o name x es) (fun x i1 i2=>a4a name (by omega) (by omega) es hsp);have e:=c1G h' k2;rw[e];generalize a9A ts es name a0c long a b=R at *;unfold c6U
 by_cases c:R<0
 ·rw[if_pos c];show R=-1;omega
 ·rw[if_neg c];rfl
def kept(id:Int)(es:List Ent):List Ent:=es.filter fun e=>e.id != id
def a0Q(e:Ent):Ent:={ e with kind:=1,a0Z:=0 }
def a0C(id:Int)(es:List Ent):List Ent:=es.map fun e=>if e.id=id then a0Q e else e
def Ids(es:List Ent):Prop:=(es.map (·.id)).Pairwise (· < ·)
theorem Ids.cons{r:List Ent}(h:Ids (e :: r)):(∀ z∈r,e.id<z.id)/\Ids r:=by
 unfold Ids at h ⊢;rw[List.map_cons,List.pairwise_cons] at h;exact⟨fun z hz=>h.1 z.id (List.mem_map.2 ⟨z,hz,rfl⟩),h.2⟩
theorem Ids.one(h:Ids es):∀ {x y:Ent},x∈es->y∈es->x.id=y.id->x=y:=by
 induction es with
 |nil=>intro x y hx;simp at hx
 |cons e r ih =>
  intro x y hx hy e1;obtain⟨h1,h2⟩:=h.cons;rcases List.mem_cons.1 hx with hx|hx
  ·rcases List.mem_cons.1 hy with hy|hy
   ·rw[hx,hy]
   ·have:=h1 y hy;rw[hx] at e1;omega
  ·rcases List.mem_cons.1 hy with hy|hy
   ·have:=h1 x hx;rw[hy] at e1;omega
   ·exact ih h2 hx hy e1
theorem a9h(h:∀ e∈es,e.id≠id):kept id es=es:=List.filter_eq_self.2 (fun e he=>by simp[h e he])
theorem a4A{id:Int}:∀ {es:List Ent},(∀ e∈es,e.id≠id)->a0C id es=es
 |[],_=>rfl
 |e :: r,h=>by
  have i:=a4A (id:=id) (es:=r) (fun z hz=>h z (by simp[hz]));unfold a0C at i ⊢;rw[List.map_cons,i,if_neg (h e (by simp))]
theorem b8M(es:List Ent):(a0C id es).map (·.id)=es.map (·.id):=by
 unfold a0C;rw[List.map_map];apply List.map_congr_left;intro e _;show (if e.id=id then a0Q e else e).id=e.id
 split <;> rfl
theorem b1e(h:Ids es):Ids (a0C id es):=by
 unfold Ids at *;rw[b8M];exact h
theorem a8Q{name:ByteArray}{e:Ent}(hb:ofB name e=true):∀ {es:List Ent},Ids es->e∈es->a1z (a1C name es) e.a0e (-e.a0c)=a1C name (kept e.id es)
 |[],_,h=>by simp at h
 |z :: r,hi,h=>by
  obtain⟨h1,h2⟩:=hi.cons
  funext p
  by_cases c:z.id=e.id
  ·have ez:e=z:=hi.one h (by simp) c.symm;subst ez
   have:kept e.id (e :: r)=r:=by
    have k:=a9h (id:=e.id) (es:=r) (fun y hy=>by have:=h1 y hy;omega);unfold kept at k ⊢;rw[List.filter_cons,if_neg (by simp),k]
   rw[this];simp only[a1z,a1C,hb,if_true];rw[Int.neg_mul];omega
  ·have he:e∈r:=by
    rcases List.mem_cons.1 h with rfl|h
    ·exact absurd rfl c
    ·exact h
   have i:=congrFun (a8Q hb h2 he) p
   have:kept e.id (z :: r)=z :: kept e.id r:=by
    unfold kept;rw[List.filter_cons,if_pos (by simpa using c)]
   rw[this];simp only[a1z,a1C] at i ⊢;omega
theorem a4S{name:ByteArray}{id:Int}:∀ {es:List Ent},(∀ e∈es,e.id=id->ofB name e=false)->a1C name (kept id es)=a1C name es
 |[],_=>rfl
 |z :: r,h=>by
  have i:=a4S (name:=name) (id:=id) (es:=r) (fun y hy=>h y (by simp[hy]))
  funext p
  have i:=congrFun i p;unfold kept at i ⊢;rw[List.filter_cons]
  by_cases c:z.id=id
  ·rw[if_neg (by simp[c])];simp only[a1C,h z (by simp) c,Bool.false_eq_true,if_false];rw[i];omega
  ·rw[if_pos (by simpa using c)];simp only[a1C,i]
theorem a3I:ofB name (a0Q e)=a0y e.a0k name:=by
 simp[ofB,a0Q]
theorem a8R{name:ByteArray}{e:Ent}(hn:a0y e.a0k name=true)(hk:e.kind=3):∀ {es:List Ent},Ids es->e∈es->a1z (a1C name es) e.a0e e.a0c=a1C name (a0C e.id es)
 |[],_,h=>by simp at h
 |z :: r,hi,h=>by
  obtain⟨h1,h2⟩:=hi.cons
  funext p
  by_cases c:z.id=e.id
  ·have ez:e=z:=hi.one h (by simp) c.symm;subst ez
   have:a0C e.id (e :: r)=a0Q e :: r:=by
    have k:=a4A (id:=e.id) (es:=r) (fun y hy=>by have:=h1 y hy;omega);unfold a0C at k ⊢;rw[List.map_cons,if_pos rfl,k]
   rw[this];have o1:ofB name e=false:=by simp[ofB,hk]
   simp only[a1z,a1C,o1,a3I,hn,if_true,Bool.false_eq_true,if_false];show 0+a1C name r p+e.a0c*cnt e.a0e p=e.a0c*cnt e.a0e p+a1C name r p;omega
  ·have he:e∈r:=by
    rcases List.mem_cons.1 h with rfl|h
    ·exact absurd rfl c
    ·exact h
   have i:=congrFun (a8R hn hk h2 he) p
   have:a0C e.id (z :: r)=z :: a0C e.id r:=by
    unfold a0C;rw[List.map_cons,if_neg c]
   rw[this];simp only[a1z,a1C] at i ⊢;omega
theorem a3Q{name:ByteArray}{id:Int}:∀ {es:List Ent},(∀ e∈es,e.id=id->a0y e.a0k name=true->e.kind≠3)->a1C name (a0C id es)=a1C name es
 |[],_=>rfl
 |z :: r,h=>by
  have i:=a3Q (name:=name) (id:=id) (es:=r) (fun y hy=>h y (by simp[hy]))
  funext p
  have i:=congrFun i p;unfold a0C at i ⊢;rw[List.map_cons];simp only[a1C,i]
  by_cases c:z.id=id
  ·rw[if_pos c,a3I]
   have e:ofB name z=a0y z.a0k name:=by
    unfold ofB
    cases hs:a0y z.a0k name
    ·rfl
    ·have:=h z (by simp) c hs;simp[this]
   rw[e];rfl
  ·rw[if_neg c]
theorem a4r:e∈kept id es↔e∈es/\e.id≠id:=by simp[kept]
theorem a2b:e∈a0C id es↔(e∈es/\e.id≠id)\/∃ z∈es,z.id=id/\e=a0Q z:=by
 unfold a0C;rw[List.mem_map];constructor
 ·rintro ⟨z,hz,h⟩
  by_cases c:z.id=id
  ·rw[if_pos c] at h;exact .inr ⟨z,hz,c,h.symm⟩
  ·rw[if_neg c] at h;subst h;exact .inl ⟨hz,c⟩
 ·rintro (⟨h1,h2⟩|⟨z,hz,h1,h2⟩)
  ·exact⟨e,h1,if_neg h2⟩
  ·exact⟨z,hz,by rw[if_pos h1,h2]⟩
end Desk
namespace Desk
def a8l(a b:Int)(s:Int × Int):Bool:=decide (s.1<b) && decide (a<s.2)
def a2E(a b:Int):List (Int × Int)->Int
 |[]=>-1
 |s :: r=>if a8l a b s then s.1 else a2E a b r
end Desk
theorem d8X(x:Desk.Ent × Nat × Nat)(fr til:Int)(w:World)(h:RSL w x.2.1 x.1.a0e)(hl:x.1.a0e.length<=100000):
  Calls Tryz.prog 266 #[.agg (c7a x).toArray,.int .i64 fr,.int .i64 til] w fun e w'=>e=.returned (.int .i64 (Desk.a2E fr til x.1.a0e))/\Below w.heap.size w w':=by
 have HS:=a0b h;clear h;simp only[c7a]
 go_enter Tryz.func266,Tryz.ntmps266
 go_wp2_with fail
 have hX:Below w.heap.size w (w.alloc (.cells #[.int .i64 x.1.id,.int .i64 x.1.kind,.string x.1.a0k,.int .i64 x.1.a0c,.slice (some ⟨x.2.1,0,none⟩) x.1.a0e.length x.2.2,.int .i64 x.1.a0Z] 58)):=(zr _ _).alloc (zq _) _;have x4:(w.alloc (.cells #[.int .i64 x.1.id,.int .i64 x.1.kind,.string x.1.a0k,.int .i64 x.1.a0c,.slice (some ⟨x.2.1,0,none⟩) x.1.a0e.length x.2.2,.int .i64 x.1.a0Z] 58)).cell? ⟨w.heap.size,4,none⟩=some (.slice (some ⟨x.2.1,0,none⟩) x.1.a0e.length x.2.2):=by simp
 have SX:=a0b (zA (HS.out.later hX) hX);clear hX;generalize (World.alloc w _)=X at x4 SX ⊢;generalize w.heap.size=N at x4 ⊢
 go_loop [7] (fun i=>∃ k:Nat,k<=x.1.a0e.length/\i=.int .i64 k/\Desk.a2E fr til x.1.a0e=Desk.a2E fr til (x.1.a0e.drop k)) (fun i=>x.1.a0e.length-(intOf i).toNat)
 case atStart=>exact⟨0,Nat.zero_le _,rfl,rfl⟩
 case round =>
  obtain⟨k,hk,rfl,hu⟩:=hrel;have HU:=a0b hu;clear hu
  by_cases hlt:k<x.1.a0e.length
  ·obtain⟨c1,c2⟩:=SX.out.1 k hlt;have hi:(k:Int)<(x.1.a0e.length:Int):=by omega
   have ed:Desk.a2E fr til (x.1.a0e.drop k)=if Desk.a8l fr til x.1.a0e[k] then x.1.a0e[k].1 else Desk.a2E fr til (x.1.a0e.drop (k+1)):=by rw[List.drop_eq_getElem_cons hlt];rfl
   have ED:=a0b ed;clear ed
   by_cases q1:x.1.a0e[k].1<til
   ·by_cases q2:fr<x.1.a0e[k].2
    ·have HN:Hid (Desk.a2E fr til x.1.a0e=x.1.a0e[k].1):=by
      show _=_;have hm:Desk.a8l fr til x.1.a0e[k]=true:=by simp[Desk.a8l,q1,q2]
      rw[HU.out,ED.out,hm];rfl
     go_wp2_with fail
     go_ret;exact⟨a1L HN.out.symm,SX.out.2⟩
    ·have HN:Hid (Desk.a2E fr til x.1.a0e=Desk.a2E fr til (x.1.a0e.drop (k+1))):=by
      show _=_;have hm:Desk.a8l fr til x.1.a0e[k]=false:=by simp[Desk.a8l,q2]
      rw[HU.out,ED.out,hm];rfl
     go_wp2_with fail
     go_round
     case rel=>exact⟨k+1,by omega,by go_num,HN.out⟩
     case measure=>simp[intOf];omega
   ·have HN:Hid (Desk.a2E fr til x.1.a0e=Desk.a2E fr til (x.1.a0e.drop (k+1))):=by
     show _=_;have hm:Desk.a8l fr til x.1.a0e[k]=false:=by simp[Desk.a8l,q1]
     rw[HU.out,ED.out,hm];rfl
    go_wp2_with fail
    go_round
    case rel=>exact⟨k+1,by omega,by go_num,HN.out⟩
    case measure=>simp[intOf];omega
  ·have e:x.1.a0e.drop k=[]:=List.drop_eq_nil_of_le (by omega);have HN:Hid (Desk.a2E fr til x.1.a0e=-1):=by show _=_;rw[HU.out,e];rfl
   have hi:¬ (k:Int)<(x.1.a0e.length:Int):=by omega
   clear e
   go_wp2_with fail
   go_ret;exact⟨a1L HN.out.symm,SX.out.2⟩
theorem b6Q:(Tryz.prog.info? 60).map (fun i=>(i.zero,i.size,i.bytes))=some (some (.agg #[.int .i64 0,.int .i64 0]),2,16):=by kernel_rfl
def d0k(s:Int × Int):List Value:=[.int .i64 s.1,.int .i64 s.2]
theorem d3W(L:List (Int × Int)):(L.flatMap d0k).length=L.length*2:=by
 induction L with
 |nil=>rfl
 |cons x xs ih=>simp only[List.flatMap_cons,List.length_append,List.length_cons,ih,d0k,List.length_nil];omega
theorem f5M(L:List (Int × Int)):∀ (j:Nat)(u:Value),(L.flatMap d0k)[j]?=some u->∃ i,∃ h:i<L.length,(j=i*2/\u=.int .i64 L[i].1)\/(j=i*2+1/\u=.int .i64 L[i].2):=by
 intro j u hu
 have hj:j<L.length*2:=by
  have:=(List.getElem?_eq_some_iff.1 hu).1
  rwa [d3W] at this
 have hi:j / 2<L.length:=by omega
 refine⟨j / 2,hi,?_⟩;have hsplit:L=L.take (j / 2)++L[j / 2] :: L.drop (j / 2+1):=by rw[List.getElem_cons_drop,List.take_append_drop]
 have hlen:((L.take (j / 2)).flatMap d0k).length=j / 2*2:=by rw[d3W,List.length_take_of_le (by omega)]
 rw[hsplit,List.flatMap_append,List.flatMap_cons,List.getElem?_append_right (by omega),hlen,List.getElem?_append_left (by simp[d0k];omega)] at hu;rcases (show j % 2=0\/j % 2=1 by omega) with e|e
 ·have e2:j-j / 2*2=0:=by omega
  rw[e2] at hu;simp[d0k] at hu;exact .inl ⟨by omega,hu.symm⟩
 ·have e2:j-j / 2*2=1:=by omega
  rw[e2] at hu;simp[d0k] at hu;exact .inr ⟨by omega,hu.symm⟩
theorem e9c{base g cap:Nat}(h:w.ownsRow base 60 2 (.slice (some ⟨g,0,none⟩) n cap) n (L.flatMap d0k)):n=L.length/\RSL w g L:=by
 have hl:=h.1;rw[d3W] at hl;have hn:n=L.length:=by omega
 refine⟨hn,fun i hi=>?_⟩;rcases h.2 with ⟨h0,_⟩|⟨g',cap',cur,hv,hg,hh,h1,h2,h3,h4⟩
 ·cases h0
 ·cases hv
  have key:∀ (j:Nat) (u:Value),j<2->(d0k L[i])[j]?=some u->w.cell? ⟨g,i*2+j,none⟩=some u:=by
   intro j u hj hu
   have e1:(L.flatMap d0k)[i*2+j]?=some u:=by
    have hsplit:L=L.take i++L[i] :: L.drop (i+1):=by rw[List.getElem_cons_drop,List.take_append_drop]
    rw[hsplit,List.flatMap_append,List.flatMap_cons];have hlen:((L.take i).flatMap d0k).length=i*2:=by rw[d3W,List.length_take_of_le (by omega)]
    rw[List.getElem?_append_right (by omega),hlen,Nat.add_sub_cancel_left,List.getElem?_append_left (by simp[d0k];omega)];exact hu
   have e2:(cur.toList.take (n*2))[i*2+j]?=some u:=by rw[h4];exact e1
   rw[List.getElem?_take_of_lt (by omega)] at e2;simp only[Array.getElem?_toList] at e2;simp[World.cell?,hh,e2]
  exact⟨key 0 _ (by omega) rfl,key 1 _ (by omega) rfl⟩
theorem e0T{b:Nat}{t:TypeId}(h:w.heap[b]?=some (.cells #[c0,c1,c2,c3,c4,c5] t)):w.cell? ⟨b,0,none⟩=some c0:=by simp[World.cell?,h]
theorem e5p{b:Nat}{t:TypeId}(h:w.heap[b]?=some (.cells #[c0,c1,c2,c3,c4,c5] t)):w.cell? ⟨b,1,none⟩=some c1:=by simp[World.cell?,h]
theorem e0S{b:Nat}{t:TypeId}(h:w.heap[b]?=some (.cells #[c0,c1,c2,c3,c4,c5] t)):w.cell? ⟨b,2,none⟩=some c2:=by simp[World.cell?,h]
theorem e0R{b:Nat}{t:TypeId}(h:w.heap[b]?=some (.cells #[c0,c1,c2,c3,c4,c5] t)):w.cell? ⟨b,3,none⟩=some c3:=by simp[World.cell?,h]
theorem e0P{b:Nat}{t:TypeId}(h:w.heap[b]?=some (.cells #[c0,c1,c2,c3,c4,c5] t)):w.cell? ⟨b,4,none⟩=some c4:=by simp[World.cell?,h]
theorem e5o{b:Nat}{t:TypeId}(h:w.heap[b]?=some (.cells #[c0,c1,c2,c3,c4,c5] t)):w.cell? ⟨b,5,none⟩=some c5:=by simp[World.cell?,h]
theorem f0l{b:Nat}{cs:Array Value}{t:TypeId}(h:w.heap[b]?=some (.cells cs t)):∀ o,w.frozen? ⟨b,o,none⟩=false:=fun o=>by simp[World.frozen?,h]
theorem f2v{X w1:World}{N:Nat}{o1 o2:Obj}(hgrow:X.grownBy w1 (Value.slice none 0 0).ownBlock)(hz:N+1<X.heap.size)(h1:X.heap[N]?=some o1)(h2:X.heap[N+1]?=some o2):w1.heap[N]?=some o1/\w1.heap[N+1]?=some o2 :=
 ⟨(hgrow.block N (by omega) (by simp[Value.ownBlock])).trans h1,(hgrow.block (N+1) hz (by simp[Value.ownBlock])).trans h2⟩
theorem f2w(x:Desk.Ent × Nat × Nat)(w:World)(h:RSL w x.2.1 x.1.a0e)(hl0:0<x.1.a0e.length)(hl:x.1.a0e.length<=1000):
  Calls Tryz.prog 238 #[.agg (c7a x).toArray] w fun e w'=>∃ g cap,e=.returned (.agg (c7a (x.1,g,cap)).toArray)/\RSL w' g x.1.a0e/\w.heap.size<=g/\g<w'.heap.size/\Below w.heap.size w w':=by
 obtain⟨i0,hi0,hz0,hz1,hz2⟩:=info_parts b6Q;have HS:=a0b h;clear h;simp only[c7a]
 go_enter Tryz.func238,Tryz.ntmps238
 go_upto_region 2 with fail
 have hX:Below w.heap.size w ((w.alloc (.cells #[.int .i64 x.1.id,.int .i64 x.1.kind,.string x.1.a0k,.int .i64 x.1.a0c,.slice (some ⟨x.2.1,0,none⟩) x.1.a0e.length x.2.2,.int .i64 x.1.a0Z] 58)).alloc (.cells #[.int .i64 0,.int .i64 0,.string ⟨#[]⟩,.int .i64 0,.slice none 0 0,.int .i64 0] 58)):=((zr _ _).alloc (zq _) _).alloc (by simp) _;have hz:((w.alloc (.cells #[.int .i64 x.1.id,.int .i64 x.1.kind,.string x.1.a0k,.int .i64 x.1.a0c,.slice (some ⟨x.2.1,0,none⟩) x.1.a0e.length x.2.2,.int .i64 x.1.a0Z] 58)).alloc (.cells #[.int .i64 0,.int .i64 0,.string ⟨#[]⟩,.int .i64 0,.slice none 0 0,.int .i64 0] 58)).heap.size=w.heap.size+2:=by simp
 have hnews:∀ j u,(x.1.a0e.flatMap d0k)[j]?=some u->((w.alloc (.cells #[.int .i64 x.1.id,.int .i64 x.1.kind,.string x.1.a0k,.int .i64 x.1.a0c,.slice (some ⟨x.2.1,0,none⟩) x.1.a0e.length x.2.2,.int .i64 x.1.a0Z] 58)).alloc (.cells #[.int .i64 0,.int .i64 0,.string ⟨#[]⟩,.int .i64 0,.slice none 0 0,.int .i64 0] 58)).cell? ((⟨x.2.1,0,none⟩:Addr).add j)=some u:=by
  intro j u hu
  have ea:∀ j:Nat,((⟨x.2.1,0,none⟩:Addr).add j)=⟨x.2.1,j,none⟩:=by
   intro j;unfold Addr.add;split
   ·rename_i h;subst h;rfl
   ·simp
  rw[ea];obtain⟨i,hi,(⟨rfl,rfl⟩|⟨rfl,rfl⟩)⟩:=f5M _ j u hu
  ·exact a0a hX (HS.out i hi).1
  ·exact a0a hX (HS.out i hi).2
 have a1:((w.alloc (.cells #[.int .i64 x.1.id,.int .i64 x.1.kind,.string x.1.a0k,.int .i64 x.1.a0c,.slice (some ⟨x.2.1,0,none⟩) x.1.a0e.length x.2.2,.int .i64 x.1.a0Z] 58)).alloc (.cells #[.int .i64 0,.int .i64 0,.string ⟨#[]⟩,.int .i64 0,.slice none 0 0,.int .i64 0] 58)).heap[w.heap.size]?=some (.cells #[.int .i64 x.1.id,.int .i64 x.1.kind,.string x.1.a0k,.int .i64 x.1.a0c,.slice (some ⟨x.2.1,0,none⟩) x.1.a0e.length x.2.2,.int .i64 x.1.a0Z] 58) :=
  (Below.heap_alloc _ _ _ (by simp)).trans (a0p _ _)
 have a2:((w.alloc (.cells #[.int .i64 x.1.id,.int .i64 x.1.kind,.string x.1.a0k,.int .i64 x.1.a0c,.slice (some ⟨x.2.1,0,none⟩) x.1.a0e.length x.2.2,.int .i64 x.1.a0Z] 58)).alloc (.cells #[.int .i64 0,.int .i64 0,.string ⟨#[]⟩,.int .i64 0,.slice none 0 0,.int .i64 0] 58)).heap[w.heap.size+1]?=some (.cells #[.int .i64 0,.int .i64 0,.string ⟨#[]⟩,.int .i64 0,.slice none 0 0,.int .i64 0] 58):=by
  have:=a0p (w.alloc (.cells #[.int .i64 x.1.id,.int .i64 x.1.kind,.string x.1.a0k,.int .i64 x.1.a0c,.slice (some ⟨x.2.1,0,none⟩) x.1.a0e.length x.2.2,.int .i64 x.1.a0Z] 58)) (.cells #[.int .i64 0,.int .i64 0,.string ⟨#[]⟩,.int .i64 0,.slice none 0 0,.int .i64 0] 58)
  rwa [World.size_alloc] at this
 have NW:=a0b hnews;have HX:=a0b (zA hX (zA hz (zA a1 a2)));have x4:((w.alloc (.cells #[.int .i64 x.1.id,.int .i64 x.1.kind,.string x.1.a0k,.int .i64 x.1.a0c,.slice (some ⟨x.2.1,0,none⟩) x.1.a0e.length x.2.2,.int .i64 x.1.a0Z] 58)).alloc (.cells #[.int .i64 0,.int .i64 0,.string ⟨#[]⟩,.int .i64 0,.slice none 0 0,.int .i64 0] 58)).cell? ⟨w.heap.size,4,none⟩=some (.slice (some ⟨x.2.1,0,none⟩) x.1.a0e.length x.2.2):=by simp[World.cell?,a1]
 clear hX hz hnews a1 a2;generalize ((w.alloc (.cells #[.int .i64 x.1.id,.int .i64 x.1.kind,.string x.1.a0k,.int .i64 x.1.a0c,.slice (some ⟨x.2.1,0,none⟩) x.1.a0e.length x.2.2,.int .i64 x.1.a0Z] 58)).alloc (.cells #[.int .i64 0,.int .i64 0,.string ⟨#[]⟩,.int .i64 0,.slice none 0 0,.int .i64 0] 58))=X at NW HX x4 ⊢
 go_wp2_with (first
  |(at_builtin;refine wpList_append_lies _ rfl _ _ 56 rfl w.heap.size 60 i0 _ 2 16 Tryz.underlying56 hi0 hz0 hz1 hz2 rfl (by decide) (.slice none 0 0) 0 [] rfl (World.ownsRow_nil _ _ _ _) ⟨x.2.1,0,none⟩ x.1.a0e.length x.2.2 (x.1.a0e.flatMap d0k) rfl (d3W _) NW.out (by intro u hu;obtain⟨s,_,hs⟩:=List.mem_flatMap.1 hu;simp[d0k] at hs;rcases hs with rfl|rfl <;> rfl) hl0 (by unfold maxLen;omega) (by omega) (by have:=HX.out.2.1;omega) X.heap.size rfl ?_;intro g cap w1 ho1 hgrow hat hlt;obtain⟨e1,e2⟩:=f2v hgrow (by have:=HX.out.2.1;omega) HX.out.2.2.1 HX.out.2.2.2;have b0:=e0T e1;have b1:=e5p e1;have b2:=e0S e1;have b3:=e0R e1;have b5:=e5o e1;have b4:=e0P e1;have g4:=f0l e1;have r0:=e0T e2;have r1:=e5p e2;have r2:=e0S e2;have r3:=e0R e2;have r4:=e0P e2;have r5:=e5o e2;have rf:=f0l e2))
 have hg:g=X.heap.size:=by
  rcases hat with e|e
  ·simp[Value.ownBlock] at e
  ·exact e
 have hz:=HX.out.2.1;have ho1':w1.ownsRow w.heap.size 60 2 (.slice (some ⟨g,0,none⟩) x.1.a0e.length cap) x.1.a0e.length (x.1.a0e.flatMap d0k):=by simpa using ho1
 have hbw:Below w.heap.size w w1:=HX.out.1.grown hgrow HX.out.1.size (fun k hk=>by simp[Value.ownBlock] at hk)
 have hof:Off [w.heap.size,w.heap.size+1] w1 (((((((w1.setCell ⟨w.heap.size,4,none⟩ (.slice (some ⟨g,0,none⟩) x.1.a0e.length cap)).setCell ⟨w.heap.size+1,0,none⟩ (.int .i64 x.1.id)).setCell ⟨w.heap.size+1,1,none⟩ (.int .i64 x.1.kind)).setCell ⟨w.heap.size+1,2,none⟩ (.string x.1.a0k)).setCell ⟨w.heap.size+1,3,none⟩ (.int .i64 x.1.a0c)).setCell ⟨w.heap.size+1,4,none⟩ (.slice (some ⟨g,0,none⟩) x.1.a0e.length cap)).setCell ⟨w.heap.size+1,5,none⟩ (.int .i64 x.1.a0Z)) :=
  (((((((Off.refl _ w1).setCell (.inl (by simp)) _ _).setCell (.inl (by simp)) _ _).setCell (.inl (by simp)) _ _).setCell (.inl (by simp)) _ _).setCell (.inl (by simp)) _ _).setCell (.inl (by simp)) _ _).setCell (.inl (by simp)) _ _
 have hbf:Below w.heap.size w (((((((w1.setCell ⟨w.heap.size,4,none⟩ (.slice (some ⟨g,0,none⟩) x.1.a0e.length cap)).setCell ⟨w.heap.size+1,0,none⟩ (.int .i64 x.1.id)).setCell ⟨w.heap.size+1,1,none⟩ (.int .i64 x.1.kind)).setCell ⟨w.heap.size+1,2,none⟩ (.string x.1.a0k)).setCell ⟨w.heap.size+1,3,none⟩ (.int .i64 x.1.a0c)).setCell ⟨w.heap.size+1,4,none⟩ (.slice (some ⟨g,0,none⟩) x.1.a0e.length cap)).setCell ⟨w.heap.size+1,5,none⟩ (.int .i64 x.1.a0Z)) :=
  ⟨hof.os.trans hbw.os,hof.tape.trans hbw.tape,hof.output.trans hbw.output,Nat.le_trans hbw.size hof.size,fun k hk=>(hof.block k (zL hk hbw.size) (by simp;omega)).trans (hbw.block k hk)⟩
 refine bodyPost_ret (v:=.agg #[.int .i64 x.1.id,.int .i64 x.1.kind,.string x.1.a0k,.int .i64 x.1.a0c,.slice (some ⟨g,0,none⟩) x.1.a0e.length cap,.int .i64 x.1.a0Z]) (by simp[results,Tryz.results238,go_sem,r0,r1,r2,r3,r4,r5]) rfl ⟨g,cap,rfl,(e9c ho1').2.off hof (by simp;omega),by omega,Nat.lt_of_lt_of_le hlt hof.size,hbf⟩
namespace Desk
def b7U(name:ByteArray)(a b:Int)(e:Ent):Bool:=ofB name e && decide (0<=a2E a b e.a0e)
end Desk
structure d9z(w wx:World)(v:Value)(ys:List (Desk.Ent × Nat × Nat)):Prop where
 own:wx.ownsRow w.heap.size 58 6 v ys.length (ys.flatMap c7a)
 sl:∀ y∈ys,RSL wx y.2.1 y.1.a0e/\w.heap.size<=y.2.1/\y.2.1<wx.heap.size/\v.ownBlock≠some y.2.1
 bw:Below w.heap.size w wx
theorem d9z.later{wx wy:World}{v:Value}{ys:List (Desk.Ent × Nat × Nat)}(h:d9z w wx v ys)(k:Below wx.heap.size wx wy):d9z w wy v ys :=
 ⟨a1g h.own k,fun y hy=>⟨(h.sl y hy).1.later k,(h.sl y hy).2.1,Nat.lt_of_lt_of_le (h.sl y hy).2.2.1 k.size,(h.sl y hy).2.2.2⟩,a0j h.bw k (zq _)⟩
namespace Rank
def before(fs:List Int)(k i:Nat):Bool:=decide (fs.getD k 0<fs.getD i 0) || (decide (fs.getD k 0=fs.getD i 0) && decide (k<i))
def upto(fs:List Int)(i n:Nat):Nat:=((List.range n).filter (fun k=>before fs k i)).length
def e3Z(fs:List Int)(i:Nat):Nat:=upto fs i fs.length
theorem d3x(fs:List Int)(i n:Nat):upto fs i (n+1)=upto fs i n+if before fs n i then 1 else 0:=by
 unfold upto;rw[List.range_succ,List.filter_append,List.length_append]
 cases h:before fs n i <;> simp[h]
theorem d6b(fs:List Int)(i:Nat):before fs i i=false:=by simp[before]
theorem e5t{a b c:Nat}(h:before fs a b=true)(k:before fs b c=true):before fs a c=true:=by
 simp[before] at *;omega
theorem d7p(fs:List Int){a b:Nat}(h:a≠b):before fs a b=true\/before fs b a=true:=by
 simp[before];omega
theorem e5Z(fs:List Int)(i:Nat):∀ n,upto fs i n<=n
 |0=>by simp[upto]
 |n+1=>by have:=e5Z fs i n;rw[d3x];split <;> omega
theorem f2U(fs:List Int){i:Nat}:∀ {n},i<n->upto fs i n<n
 |0,h=>by omega
 |n+1,h=>by
  rw[d3x]
  by_cases e:i=n
  ·subst e;rw[d6b];have:=e5Z fs i i;simp;omega
  ·have:=f2U fs (i:=i) (n:=n) (by omega)
   split <;> omega
theorem e6F(fs:List Int)(h:i<fs.length):e3Z fs i<fs.length:=f2U fs h
theorem e3f{fs:List Int}{i j:Nat}(h:before fs i j=true):∀ n,upto fs i n+(if i<n then 1 else 0)<=upto fs j n
 |0=>by simp[upto]
 |n+1=>by
  have ih:=e3f h n;rw[d3x,d3x]
  by_cases e:n=i
  ·subst e;rw[d6b,h];simp at ih ⊢;omega
  ·have e1:(if i<n+1 then 1 else 0:Nat)=(if i<n then 1 else 0):=by
    by_cases h1:i<n
    ·rw[if_pos h1,if_pos (by omega)]
    ·rw[if_neg h1,if_neg (by omega)]
   rw[e1];generalize (if i<n then 1 else 0:Nat)=q at ih ⊢
   cases hb:before fs n i
   ·simp only[Bool.false_eq_true,if_false]
    split <;> omega
   ·rw[e5t hb h];simp only[if_true];omega
theorem d8o(hi:i<fs.length)(h:before fs i j=true):e3Z fs i<e3Z fs j:=by
 have:=e3f h fs.length;rw[if_pos hi] at this;exact this
theorem e1x(hi:i<fs.length)(hj:j<fs.length)(h:e3Z fs i=e3Z fs j):i=j:=by
 by_cases e:i=j
 ·exact e
 ·rcases d7p fs e with h1|h1
  ·have:=d8o hi h1;omega
  ·have:=d8o hj h1;omega
end Rank
theorem f4j:∀ (n:Nat)(l:List Nat),l.Nodup->(∀ x∈l,x<n)->l.length<=n
 |0,l,_,h=>by
  cases l with
  |nil=>simp
  |cons x l=>have:=h x (by simp);omega
 |n+1,l,hd,h=>by
  by_cases c:n∈l
  ·have h1:(l.erase n).length<=n:=f4j n (l.erase n) (hd.erase n) (fun x hx=>by
    have h2:=List.mem_of_mem_erase hx;have h3:=h x h2;have h4:x≠n:=fun e=>by subst e;exact hd.not_mem_erase hx
    omega)
   rw[List.length_erase_of_mem c] at h1;omega
  ·have:=f4j n l hd (fun x hx=>by
    have h3:=h x hx;have h4:x≠n:=fun e=>by subst e;exact c hx
    omega)
   omega
theorem f1p{l:List Nat}(hd:l.Nodup)(h:∀ x∈l,x<n)(hl:l.length=n):∀ k,k<n->k∈l:=by
 intro k hk;apply Classical.byContradiction;intro c
 have:=f4j n (k :: l) (List.nodup_cons.2 ⟨c,hd⟩) (fun x hx=>by
  rcases List.mem_cons.1 hx with rfl|hx
  ·exact hk
  ·exact h x hx)
 simp at this;omega
namespace Rank
theorem d5F(fs:List Int){k:Nat}(hk:k<fs.length):∃ i,i<fs.length/\e3Z fs i=k:=by
 have hd:((List.range fs.length).map (e3Z fs)).Nodup:=by
  unfold List.Nodup;rw[List.pairwise_map];refine List.Pairwise.imp_of_mem ?_ (List.nodup_range (n:=fs.length));intro i j hi hj hne e;exact hne (e1x (List.mem_range.1 hi) (List.mem_range.1 hj) e)
 have:=f1p hd (fun x hx=>by
  obtain⟨i,hi,rfl⟩:=List.mem_map.1 hx
  exact e6F fs (List.mem_range.1 hi)) (by simp) k hk
 obtain⟨i,hi,e⟩:=List.mem_map.1 this;exact⟨i,List.mem_range.1 hi,e⟩
end Rank
namespace Desk
def ltE(a b:Int)(x y:Ent):Prop:=a2E a b x.a0e<a2E a b y.a0e\/(a2E a b x.a0e=a2E a b y.a0e/\x.id<y.id)
theorem b8e(a b:Int)(x:Ent):¬ ltE a b x x:=by unfold ltE;omega
theorem b3b(a b:Int)(x y z:Ent)(h:ltE a b x y)(k:ltE a b y z):ltE a b x z:=by unfold ltE at *;omega
def d3X(a b:Int)(l:List Ent):List Int:=l.map fun e=>a2E a b e.a0e
theorem d6H(h:i<l.length):(d3X a b l).getD i 0=a2E a b l[i].a0e:=by
 simp[d3X,List.getD,h]
theorem f3Z{out:List Ent}(hid:Ids l)(hlen:out.length=l.length)(h:∀ (i:Nat)(hi:i<l.length),out[Rank.e3Z (d3X a b l) i]?=some l[i]):out.Pairwise (ltE a b)/\∀ e,e∈out↔e∈l:=by
 have hf:(d3X a b l).length=l.length:=by simp[d3X]
 have onto:∀ (k:Nat),k<out.length->∃ (i:Nat) (hi:i<l.length),Rank.e3Z (d3X a b l) i=k/\out[k]?=some l[i]:=by
  intro k hk;obtain⟨i,hi,e⟩:=Rank.d5F (d3X a b l) (k:=k) (by omega);rw[hf] at hi;exact⟨i,hi,e,by rw[<- e];exact h i hi⟩
 refine⟨?_,fun e=>⟨fun he=>?_,fun he=>?_⟩⟩
 ·rw[List.pairwise_iff_getElem];intro p q hp hq hpq;obtain⟨i,hi,e1,e2⟩:=onto p hp;obtain⟨j,hj,e3,e4⟩:=onto q hq;rw[List.getElem?_eq_getElem hp] at e2;rw[List.getElem?_eq_getElem hq] at e4;rw[Option.some.inj e2,Option.some.inj e4];have hne:i≠j:=fun e=>by subst e;omega
  rcases Rank.d7p (d3X a b l) hne with hb|hb
  ·unfold Rank.before at hb;rw[d6H hi,d6H hj] at hb;simp at hb;rcases hb with hb|⟨hb,hc⟩
   ·exact .inl hb
   ·refine .inr ⟨hb,?_⟩;have:=List.pairwise_iff_getElem.1 hid i j (by simpa using hi) (by simpa using hj) hc
    simpa using this
  ·have:=Rank.d8o (fs:=d3X a b l) (by omega) hb;omega
 ·obtain⟨k,hk,rfl⟩:=List.getElem_of_mem he;obtain⟨i,hi,_,e2⟩:=onto k hk;rw[List.getElem?_eq_getElem hk] at e2;rw[Option.some.inj e2];exact zg hi
 ·obtain⟨i,hi,rfl⟩:=List.getElem_of_mem he;exact List.mem_of_getElem? (h i hi)
def a2c(L:List (Int × Int)):Prop:=L.Pairwise fun s t=>s.1<t.1
theorem a9y{a b:Int}:∀ {L:List (Int × Int)},a2c L->(∃ s∈L,a8l a b s=true)->(∃ s∈L,a8l a b s=true/\s.1=a2E a b L)/\∀ t∈L,a8l a b t=true->a2E a b L<=t.1
 |[],_,h=>by obtain⟨s,hs,_⟩:=h;simp at hs
 |s :: r,hr,h=>by
  unfold a2c at hr;rw[List.pairwise_cons] at hr;simp only[a2E]
  by_cases c:a8l a b s=true
  ·rw[if_pos c];refine⟨⟨s,by simp,c,rfl⟩,fun t ht _=>?_⟩;rcases List.mem_cons.1 ht with rfl|ht
   ·omega
   ·have:=hr.1 t ht;omega
  ·rw[if_neg c]
   have h':∃ s∈r,a8l a b s=true:=by
    obtain⟨t,ht,k⟩:=h;rcases List.mem_cons.1 ht with rfl|ht
    ·exact absurd k c
    ·exact⟨t,ht,k⟩
   obtain⟨⟨t,k1,k2,k3⟩,k4⟩:=a9y (a:=a) (b:=b) (L:=r) hr.2 h';refine⟨⟨t,by simp[k1],k2,k3⟩,fun u hu hm=>?_⟩;rcases List.mem_cons.1 hu with rfl|hu
   ·exact absurd hm c
   ·exact k4 u hu hm
theorem a9x{a b:Int}:∀ {L:List (Int × Int)},(∀ s∈L,a8l a b s=false)->a2E a b L=-1
 |[],_=>rfl
 |s :: r,h=>by
  simp only[a2E];rw[if_neg (by rw[h s (by simp)];simp)];exact a9x (fun t ht=>h t (by simp[ht]))
theorem a7J(hr:a2c L)(h0:∀ s∈L,0<=s.1):0<=a2E a b L↔∃ s∈L,a8l a b s=true:=by
 constructor
 ·intro h;apply Classical.byContradiction;intro c
  have:a2E a b L=-1:=a9x (fun s hs=>by
   cases hb:a8l a b s
   ·rfl
   ·exact absurd ⟨s,hs,hb⟩ c)
  omega
 ·intro h;obtain⟨⟨s,k1,_,k3⟩,_⟩:=a9y hr h;have:=h0 s k1;omega
def a5s(acc:List Avl.It)(z:Avl.It):List Avl.It:=if acc.any fun u=>decide (u.n=z.n) then acc else acc++[z]
def uniq(M:List Avl.It):List Avl.It:=M.foldl a5s []
theorem a6u(M:List Avl.It)(z:Avl.It):uniq (M++[z])=a5s (uniq M) z:=by unfold uniq;rw[List.foldl_append];rfl
theorem c4t:∀ (n:Nat)(M:List Avl.It),M.length=n->Avl.Ord M->Avl.Ord (uniq M)/\(∀ u∈uniq M,u∈M)/\(∀ z∈M,∃ u∈uniq M,u.n=z.n/\(u=z\/Avl.lt u z))/\((uniq M).map (·.n)).Nodup:=by
 intro n
 induction n with
 |zero =>
  intro M hM _;rw[List.length_eq_zero_iff.1 hM];exact⟨List.Pairwise.nil,by simp[uniq],by simp,by simp[uniq]⟩
 |succ n ih =>
  intro M hM hO;obtain⟨K,z,rfl⟩:∃ K z,M=K++[z]:=⟨M.dropLast,M.getLast (by intro e;simp[e] at hM),(List.dropLast_concat_getLast _).symm⟩;unfold Avl.Ord at hO;rw[List.pairwise_append] at hO;obtain⟨i1,i2,i3,i4⟩:=ih K (by simpa using hM) hO.1;rw[a6u];unfold a5s
  by_cases c:((uniq K).any fun u=>decide (u.n=z.n))=true
  ·rw[if_pos c];obtain⟨u,hu,hc⟩:=List.any_eq_true.1 c;refine⟨i1,fun u hu=>by simp[i2 u hu],fun y hy=>?_,i4⟩;rcases List.mem_append.1 hy with hy|hy
   ·exact i3 y hy
   ·have:y=z:=by simpa using hy
    subst this;exact⟨u,hu,by simpa using hc,.inr (hO.2.2 u (i2 u hu) y (by simp))⟩
  ·rw[if_neg c];have hno:∀ u∈uniq K,u.n≠z.n:=fun u hu e=>c (List.any_eq_true.2 ⟨u,hu,by simp[e]⟩)
   refine⟨?_,fun u hu=>?_,fun y hy=>?_,?_⟩
   ·unfold Avl.Ord;rw[List.pairwise_append]
    exact⟨i1,by simp,fun u hu y hy=>by
     have:y=z:=by simpa using hy
     subst this
     exact hO.2.2 u (i2 u hu) y (by simp)⟩
   ·rcases List.mem_append.1 hu with hu|hu
    ·simp[i2 u hu]
    ·simp at hu;simp[hu]
   ·rcases List.mem_append.1 hy with hy|hy
    ·obtain⟨u,hu,k⟩:=i3 y hy;exact⟨u,by simp[hu],k⟩
    ·have:y=z:=by simpa using hy
     subst this;exact⟨y,by simp,rfl,.inl rfl⟩
   ·rw[List.map_append,List.nodup_append];refine⟨i4,by simp,fun x hx y hy e=>?_⟩;obtain⟨u,hu,rfl⟩:=List.mem_map.1 hx;simp at hy;exact hno u hu (by rw[e,hy])
def a2e(name:ByteArray)(es:List Ent)(at_:Int->Nat)(T:Avl.S):Prop :=
 Avl.Ord (Avl.a0w T)/\∀ z,z∈Avl.a0w T↔∃ e∈es,ofB name e=true/\∃ s∈e.a0e,z=⟨s.1,s.2,e.id,at_ e.id⟩
theorem c4u{at_:Int->Nat}{T:Avl.S}(h:a2e name es at_ T)(hid:Ids es)(hr:∀ e∈es,a2c e.a0e)(h0:∀ e∈es,∀ s∈e.a0e,0<=s.1){ys:List Ent}(hl:ys.length=(uniq (Avl.meet a b T)).length)(hy:∀ (i:Nat)(hi:i<ys.length),ys[i]∈es/\ys[i].id=((uniq (Avl.meet a b T))[i]'(by omega)).n):
  ys.Pairwise (ltE a b)/\∀ e,e∈ys↔e∈es.filter (b7U name a b):=by
 have hM:=Avl.b1J a b T h.1;have hO:Avl.Ord (Avl.meet a b T):=by rw[hM];exact Avl.b0C _ h.1
 obtain⟨u1,u2,u3,u4⟩:=c4t _ (Avl.meet a b T) rfl hO
 have inM:∀ z,z∈Avl.meet a b T↔∃ e∈es,ofB name e=true/\∃ s∈e.a0e,a8l a b s=true/\z=⟨s.1,s.2,e.id,at_ e.id⟩:=by
  intro z;rw[hM,List.mem_filter,h.2];constructor
  ·rintro ⟨⟨e,k1,k2,s,k3,rfl⟩,k4⟩;exact⟨e,k1,k2,s,k3,k4,rfl⟩
  ·rintro ⟨e,k1,k2,s,k3,k4,rfl⟩;exact⟨⟨e,k1,k2,s,k3,rfl⟩,k4⟩
 -- each item that is kept stands at its entry's first
 have fst:∀ u∈uniq (Avl.meet a b T),∀ e∈es,e.id=u.n->ofB name e=true/\u.f=a2E a b e.a0e/\∃ s∈e.a0e,a8l a b s=true:=by
  intro u hu e he hn;obtain⟨e',k1,k2,s,k3,k4,rfl⟩:=(inM u).1 (u2 u hu);have:e=e':=hid.one he k1 hn;subst this;refine⟨k2,?_,s,k3,k4⟩;obtain⟨⟨t,t1,t2,t3⟩,t4⟩:=a9y (hr e he) ⟨s,k3,k4⟩;have hle:=t4 s k3 k4;obtain⟨u',hu',m1,m2⟩:=u3 ⟨t.1,t.2,e.id,at_ e.id⟩ ((inM _).2 ⟨e,he,k2,t,t1,t2,rfl⟩)
  have same:u'=⟨s.1,s.2,e.id,at_ e.id⟩:=by
   have hnd:=u4;unfold List.Nodup at hnd;rw[List.pairwise_map] at hnd;apply Classical.byContradiction;intro hne;obtain⟨i,hi,ei⟩:=List.getElem_of_mem hu';obtain⟨j,hj,ej⟩:=List.getElem_of_mem hu;have hij:i≠j:=fun e=>by subst e;exact hne (ei.symm.trans ej)
   rcases Nat.lt_or_gt_of_ne hij with c|c
   ·have:=List.pairwise_iff_getElem.1 hnd i j hi hj c;rw[ei,ej] at this;exact this m1
   ·have:=List.pairwise_iff_getElem.1 hnd j i hj hi c;rw[ei,ej] at this;exact this m1.symm
  subst same;show s.1=_;rcases m2 with m2|m2
  ·have:=congrArg Avl.It.f m2;simp at this;omega
  ·unfold Avl.lt at m2;simp at m2;omega
 have sel:∀ u∈uniq (Avl.meet a b T),∀ e∈es,e.id=u.n->e∈es.filter (b7U name a b):=by
  intro u hu e he hn;obtain⟨k1,_,k3⟩:=fst u hu e he hn;exact List.mem_filter.2 ⟨he,by simp[b7U,k1,(a7J (hr e he) (h0 e he)).2 k3]⟩
 refine⟨?_,fun e=>⟨fun he=>?_,fun he=>?_⟩⟩
 ·rw[List.pairwise_iff_getElem];intro i j hi hj hij;have o:=List.pairwise_iff_getElem.1 u1 i j (by omega) (by omega) hij;obtain⟨a1,a2⟩:=hy i hi;obtain⟨b1,b2⟩:=hy j hj;have f1:=(fst _ (zg (by omega)) _ a1 a2).2.1;have f2:=(fst _ (zg (by omega)) _ b1 b2).2.1;unfold Avl.lt at o;unfold ltE;rw[<- f1,<- f2,a2,b2];exact o
 ·obtain⟨i,hi,rfl⟩:=List.getElem_of_mem he;obtain⟨a1,a2⟩:=hy i hi;exact sel _ (zg (by omega)) _ a1 a2
 ·obtain⟨he1,he2⟩:=List.mem_filter.1 he;simp only[b7U,Bool.and_eq_true,decide_eq_true_eq] at he2;obtain⟨s,s1,s2⟩:=(a7J (hr e he1) (h0 e he1)).1 he2.2;obtain⟨u,hu,m1,_⟩:=u3 _ ((inM _).2 ⟨e,he1,he2.1,s,s1,s2,rfl⟩);obtain⟨i,hi,ei⟩:=List.getElem_of_mem hu;obtain⟨a1,a2⟩:=hy i (by omega);have:ys[i]'(by omega)=e:=hid.one a1 he1 (by rw[a2,ei];exact m1);rw[<- this];exact zg _
theorem a5J(p:Ent->Bool)(h:Ids es):Ids (es.filter p):=by
 unfold Ids at *;exact List.Pairwise.sublist (List.Sublist.map _ List.filter_sublist) h
end Desk
namespace Desk
theorem a8W{a b:ByteArray}:a0y a b=true↔a.toList=b.toList:=by simp[a0y]
theorem a2u(a:ByteArray):a0y a a=true:=a8W.2 rfl
theorem a8X{a b c:ByteArray}(h:a0y a b=true):a0y c a=a0y c b:=by
 unfold a0y;rw[a8W.1 h]
def c0F(a b:Int)(x:Ent):List Ent->List Ent
 |[]=>[x]
 |y :: r=>if a2E a b x.a0e<a2E a b y.a0e\/(a2E a b x.a0e=a2E a b y.a0e/\x.id<y.id) then x :: y :: r else y :: c0F a b x r
def b2J(a b:Int):List Ent->List Ent
 |[]=>[]
 |x :: r=>c0F a b x (b2J a b r)
theorem b1R{a b:Int}{x z:Ent}:∀ {l:List Ent},z∈c0F a b x l↔z=x\/z∈l
 |[]=>by simp[c0F]
 |y :: r=>by
  simp only[c0F]
  split
  ·simp
  ·rw[List.mem_cons,b1R,List.mem_cons];constructor
   ·rintro (h|h|h)
    ·exact .inr (.inl h)
    ·exact .inl h
    ·exact .inr (.inr h)
   ·rintro (h|h|h)
    ·exact .inr (.inl h)
    ·exact .inl h
    ·exact .inr (.inr h)
theorem a4U{a b:Int}{z:Ent}:∀ {l:List Ent},z∈b2J a b l↔z∈l
 |[]=>by simp[b2J]
 |x :: r=>by rw[b2J,b1R,a4U,List.mem_cons]
theorem c0E{a b:Int}{x:Ent}:∀ {l:List Ent},l.Pairwise (ltE a b)->(∀ z∈l,z.id≠x.id)->(c0F a b x l).Pairwise (ltE a b)
 |[],_,_=>by simp[c0F]
 |y :: r,h,hn=>by
  rw[List.pairwise_cons] at h;simp only[c0F]
  split
  ·rename_i c
   refine List.pairwise_cons.2 ⟨fun z hz=>?_,List.pairwise_cons.2 h⟩;rcases List.mem_cons.1 hz with rfl|hz
   ·exact c
   ·exact b3b a b x y z c (h.1 z hz)
  ·rename_i c
   refine List.pairwise_cons.2 ⟨fun z hz=>?_,c0E h.2 (fun z hz=>hn z (by simp[hz]))⟩;rcases b1R.1 hz with rfl|hz
   ·have:=hn y (by simp);unfold ltE;omega
   ·exact h.1 z hz
theorem b5V{a b:Int}:∀ {l:List Ent},Ids l->(b2J a b l).Pairwise (ltE a b)
 |[],_=>by simp[b2J]
 |x :: r,h=>by
  obtain⟨h1,h2⟩:=h.cons;exact c0E (b5V h2) (fun z hz=>by have:=h1 z (a4U.1 hz);omega)
def a2x(name:ByteArray)(a b:Int)(es:List Ent):List Ent:=b2J a b (es.filter (b7U name a b))
theorem b3f{out:List Ent}(hid:Ids es)(h:out.Pairwise (ltE a b))(hm:∀ e,e∈out↔e∈es.filter (b7U name a b)):out=a2x name a b es :=
 a4i (b8e a b) (b3b a b) h (b5V (a5J _ hid)) (fun e=>(hm e).trans a4U.symm)
def a0O(ts:List (ByteArray × Int)):List Ent->List Ent->List Ent × List Int
 |done,[]=>(done,[])
 |done,e :: r =>
  if e.kind=3/\a1e ts (done++e :: r) e.a0k e.a0c e.a0e=true then
   ((a0O ts (done++[a0Q e]) r).1,e.id :: (a0O ts (done++[a0Q e]) r).2)
  else a0O ts (done++[e]) r
def a0R(ts:List (ByteArray × Int))(es:List Ent):List Ent × List Int:=a0O ts [] es
def a3D(tq:Int):List Ent->Int
 |[]=>tq
 |e :: r=>if e.kind≠1/\e.a0Z<a3D tq r then e.a0Z else a3D tq r
def a0z(t:Int)(e:Ent):Bool:=(e.kind != 1) && decide (e.a0Z=t)
def a1K(ts:List (ByteArray × Int)):Nat->List Ent->Int->Int->List Ent × List Int × List Int
 |0,es,_,_=>(es,[],[])
 |k+1,es,now,tq =>
  if now<tq then
   let t:=a3D tq es
   let g:=a0R ts (es.filter fun e=>!a0z t e)
   let q:=a1K ts k g.1 t tq
   (q.1,(es.filter (a0z t)).map (·.id)++q.2.1,g.2++q.2.2)
  else (es,[],[])
structure St where
 ts:List (ByteArray × Int)
 es:List Ent
 given:Int
 now:Int
structure Rep where
 err:Int
 at_:Int
 n:Int
 entries:List Ent
 days:List Int
 granted:List Int
 ended:List Int
def Rep.error(e:Int):Rep:=⟨e,0,0,[],[],[],[]⟩
def Rep.num(n:Int):Rep:=⟨0,0,n,[],[],[],[]⟩
inductive a7U where
 |a0k (name:ByteArray) (a0c:Int)
 |enter (kind:Int) (name:ByteArray) (a0c fr til long:Int)
 |series (name:ByteArray) (a0c:Int) (r:Rd.a0Y)
 |confirm (id:Int)
 |cancel (id:Int)
 |list (name:ByteArray) (fr til:Int)
 |waiting
 |peak (name:ByteArray) (fr til:Int)
 |find (name:ByteArray) (a0c long fr til:Int)
 |expand (r:Rd.a0Y)
 |tick (n:Int)
 |clock
def a2t(s:St)(e:Ent):St × Rep:=(⟨s.ts,s.es++[{ e with id:=s.given+1 }],s.given+1,s.now⟩,Rep.num (s.given+1))
def a1M(s:St)(kind:Int)(name:ByteArray)(a0c fr til long:Int):Int :=
 if a0S s.ts name a0c≠0 then a0S s.ts name a0c
 else if til<=fr\/1048320<s.now+long then 6
 else if s.given=60 then 5
 else if kind=3 then (if a1Y s.es=6 then 5 else 0)
 else if a1e s.ts s.es name a0c [(fr,til)] then 0 else 8
def a8p(s:St)(kind:Int)(name:ByteArray)(a0c fr til long:Int):Ent:=⟨0,kind,name,a0c,[(fr,til)],if kind=1 then 0 else s.now+long⟩
def a2l(s:St)(name:ByteArray)(a0c:Int)(r:Rd.a0Y):Int :=
 if a0S s.ts name a0c≠0 then a0S s.ts name a0c
 else if Rd.a6W r≠0 then Rd.a6W r
 else if s.given=60 then 5
 else if a1e s.ts s.es name a0c (Rd.a2M r (Rd.a0E r)) then 0 else 8
def a5S(id:Int)(es:List Ent):Option Ent:=es.find? fun e=>decide (e.id=id)
def a0g(s:St):a7U->St × Rep
 |.a0k name a0c=>if a0h name s.ts≠0 then (s,.error 4) else if s.ts.length=4 then (s,.error 5) else ({ s with ts:=s.ts++[(name,a0c)] },.num 0)
 |.enter kind name a0c fr til long=>if a1M s kind name a0c fr til long≠0 then (s,.error (a1M s kind name a0c fr til long)) else a2t s (a8p s kind name a0c fr til long)
 |.series name a0c r=>if a2l s name a0c r≠0 then (s,.error (a2l s name a0c r)) else a2t s ⟨0,1,name,a0c,Rd.a2M r (Rd.a0E r),0⟩
 |.confirm id=>match a5S id s.es with
  |none=>(s,.error 9)
  |some e=>if e.kind≠2 then (s,.error 10) else ({ s with es:=a0C id s.es },.num 0)
 |.cancel id=>match a5S id s.es with
  |none=>(s,.error 9)
  |some _=>({ s with es:=kept id s.es },.num 0)
 |.list name fr til=>if a0h name s.ts=0 then (s,.error 3) else if til<=fr then (s,.error 6) else (s,{ Rep.num 0 with entries:=a2x name fr til s.es })
 |.waiting=>(s,{ Rep.num 0 with entries:=s.es.filter fun e=>e.kind==3 })
 |.peak name fr til=>if a0h name s.ts=0 then (s,.error 3) else if til<=fr then (s,.error 6) else (s,.num (a1Q name s.es fr til))
 |.find name a0c long fr til=>if a0S s.ts name a0c≠0 then (s,.error (a0S s.ts name a0c)) else if til<=fr then (s,.error 6) else (s,.num (a9A s.ts s.es name a0c long fr til))
 |.expand r=>if Rd.a6W r≠0 then (s,.error (Rd.a6W r)) else (s,{ Rep.num (Rd.a0E r).length with days:=Rd.a0E r })
 |.tick n=>if 1048320<s.now+n then (s,.error 6) else
   let q:=a1K s.ts (s.es.length+1) s.es s.now (s.now+n)
   ({ s with es:=q.1,now:=s.now+n },{ Rep.num (s.now+n) with granted:=q.2.2,ended:=q.2.1 })
 |.clock=>(s,.num s.now)
def a1q(s:St)(l:a7U):St × Rep :=
 if (a0g s l).2.err≠0 then a0g s l
 else ({ (a0g s l).1 with es:=(a0R (a0g s l).1.ts (a0g s l).1.es).1 },{ (a0g s l).2 with granted:=(a0g s l).2.granted++(a0R (a0g s l).1.ts (a0g s l).1.es).2 })
def a1O:a7U->Prop
 |.a0k _ u=>1<=u/\u<=9
 |.enter k _ u fr til long=>(k=1/\long=0\/(k=2\/k=3)/\1<=long/\long<=1048320)/\1<=u/\u<=9/\0<=fr/\fr<=1048320/\0<=til/\til<=1048320
 |.series _ u r=>1<=u/\u<=9/\Rd.a6s r
 |.confirm id=>0<=id/\id<=9999999
 |.cancel id=>0<=id/\id<=9999999
 |.list _ fr til=>0<=fr/\fr<=1048320/\0<=til/\til<=1048320
 |.waiting=>True
 |.peak _ fr til=>0<=fr/\fr<=1048320/\0<=til/\til<=1048320
 |.find _ u long fr til=>1<=u/\u<=9/\1<=long/\long<=1048320/\0<=fr/\fr<=1048320/\0<=til/\til<=1048320
 |.expand r=>Rd.a6s r
 |.tick n=>1<=n/\n<=1048320
 |.clock=>True
structure a1H(now:Int)(e:Ent):Prop where
 u1:1<=e.a0c
 u9:e.a0c<=9
 sl:e.a0e.length<=40
 s0:e.a0e≠[]
 sp:c1P e.a0e
 ri:a2c e.a0e
 kd:(e.kind=1/\e.a0Z=0)\/((e.kind=2\/e.kind=3)/\now<e.a0Z/\e.a0Z<=1048320/\e.a0e.length=1)
structure Inv(s:St):Prop where
 tl:s.ts.length<=4
 tu:∀ t∈s.ts,1<=t.2/\t.2<=9
 tn:s.ts.Pairwise fun t u=>a0y t.1 u.1=false
 ids:Ids s.es
 idb:∀ e∈s.es,1<=e.id/\e.id<=s.given
 g0:0<=s.given
 g1:s.given<=60
 n0:0<=s.now
 n1:s.now<=1048320
 en:∀ e∈s.es,a1H s.now e
 th:∀ e∈s.es,e.a0c<=a0h e.a0k s.ts
 wa:a1Y s.es<=6
 no:∀ e∈s.es,e.kind=3->a1e s.ts s.es e.a0k e.a0c e.a0e=false
 wi:∀ name x,a0o name x s.es<=a0h name s.ts
end Desk
end Go.Proofs.YtfigmlfdnickmaaGreatDoor
