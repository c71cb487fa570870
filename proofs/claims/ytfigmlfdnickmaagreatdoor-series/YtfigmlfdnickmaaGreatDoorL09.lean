import Derived.Test.YtfigmlfdnickmaaGreatDoorL08
import Derived.Lib.SliceRun
set_option maxRecDepth 100000
set_option maxHeartbeats 8000000
variable{name:ByteArray}{e:Go.Proofs.YtfigmlfdnickmaaGreatDoor.Desk.Ent}{id:Int}{at':Int->Nat}{ts:List (ByteArray × Int)}{es es':List Go.Proofs.YtfigmlfdnickmaaGreatDoor.Desk.Ent}{Gr l:List Int}{L M:List Nat}{xs:List Go.Value}{B B0 b cap d i j k n:Nat}{p:Nat->Bool}{ck col col':Nat->Option Go.Proofs.YtfigmlfdnickmaaGreatDoor.Col}{r rk:Go.Proofs.YtfigmlfdnickmaaGreatDoor.Raw}{s:Go.Proofs.YtfigmlfdnickmaaGreatDoor.Desk.St}{v v4:Go.Value}{w w' wx:Go.World}
namespace Go.Proofs.YtfigmlfdnickmaaGreatDoor
open Go.RowKit
theorem b6j{base:Nat}{e:TypeId}{g:Nat}(h:w.ownsRow base e 1 (.slice (some ⟨g,0,none⟩) n cap) n xs)(hi:i<=n):w.ownsRow base e 1 (.slice (some ⟨g,0,none⟩) i cap) i (xs.take i):=by
 obtain⟨h1,h2⟩:=h;refine⟨by rw[List.length_take];omega,?_⟩;rcases h2 with ⟨h0,_⟩|⟨g',cap',cur,hv,hg,hh,hn,hcap,hsz,htake⟩
 ·cases h0
 ·cases hv
  refine .inr ⟨g,cap,cur,rfl,hg,hh,by omega,hcap,hsz,?_⟩;rw[<- htake,List.take_take]
  congr 1
  omega
theorem a4Z{base:Nat}{e:TypeId}{g n cap:Nat}{xs:List Value}:∀ (vs:List Value)(o:Nat)(w:World),n<=o->w.ownsRow base e 1 (.slice (some ⟨g,0,none⟩) n cap) n xs->(w.setCells g o vs).ownsRow base e 1 (.slice (some ⟨g,0,none⟩) n cap) n xs
 |[],_,_,_,h=>h
 |v :: r,o,w,ho,h=>by
  refine a4Z r (o+1) _ (by omega) ?_;have:=(h.stored o v).1
  rwa [List.set_eq_of_length_le (by have:=h.1;omega)] at this
theorem a5a{g:Nat}:∀ (vs:List Value)(o:Nat)(w:World),Off [g] w (w.setCells g o vs)
 |[],_,_=>Off.refl _ _
 |v :: r,o,w=>(Off.set0 g w o v).trans (a5a r (o+1) _)
structure a8s(L:List Nat)(p:Nat->Bool)(i j:Nat)(M:List Nat):Prop where
 len:M.length=L.length
 ij:i<j
 jl:j<=L.length
 lo:M.take i=(L.take j).filter fun b=>!p b
 hi:∀ k,j<=k->M[k]?=L[k]?
theorem a8s.skip(h:a8s L p i j M)(hj:j<L.length)(hp:p L[j]=true):a8s L p i (j+1) M:=by
 refine⟨h.len,by have:=h.ij;omega,by omega,?_,fun k hk=>h.hi k (by omega)⟩;rw[h.lo,List.take_succ_eq_append_getElem hj,List.filter_append];simp[hp]
theorem a8s.a9i(h:a8s L p i j M)(hj:j<L.length)(hp:p L[j]=false):a8s L p (i+1) (j+1) (M.set i L[j]):=by
 have hij:=h.ij;have hl:=h.len;refine⟨by simpa using hl,by omega,by omega,?_,fun k hk=>?_⟩
 ·rw[List.take_succ_eq_append_getElem hj,List.filter_append,<- h.lo,List.take_succ_eq_append_getElem (by simp;omega),List.take_set_of_le (zq _)];simp[hp]
 ·rw[List.getElem?_set_ne (by omega)];exact h.hi k (by omega)
theorem a8s.new(hk:k<L.length)(hp:p L[k]=true)(h0:∀ (j:Nat)(hj:j<k),p (L[j]'(by omega))=false):a8s L p k (k+1) L:=by
 refine⟨rfl,by omega,by omega,?_,fun _ _=>rfl⟩;rw[List.take_succ_eq_append_getElem hk,List.filter_append];simp only[hp,List.filter_cons,Bool.not_true,Bool.false_eq_true,if_false,List.filter_nil,List.append_nil];refine (List.filter_eq_self.2 (fun b hb=>?_)).symm;obtain⟨j,hj,rfl⟩:=List.getElem_of_mem hb;have hj':j<k:=by rw[List.length_take] at hj;omega
 simp[h0 j hj']
def c1D(w:World)(L:List Nat)(p:Nat->Bool):Prop :=
 ∀ b∈L,Calls Tryz.prog 107 #[.pointer (some ⟨b,0,none⟩)] w fun e w'=>e=.returned (.bool (p b))/\w'=w
theorem b5e(L:List Nat)(p:Nat->Bool)(v:Value)(w:World)(ht:c1D w L p)(own:w.ownsRow 0 197 1 v L.length (L.map a5x))(hl:L.length<=1000):
  Calls Tryz.prog 160 #[v,.func (.func 107) #[] #[]] w fun e w'=>e=.returned (.int .i64 (a3z p L 0))/\w'=w:=by
 have hv:∃ a cap,v=.slice a L.length cap:=by
  rcases own.2 with ⟨rfl,h⟩|⟨g,cap,_,rfl,_⟩
  ·rw[h];exact⟨_,_,rfl⟩
  ·exact⟨_,_,rfl⟩
 obtain⟨a,cap,rfl⟩:=hv;have OWN:=a0b own;have TE:=a0b ht;clear own ht
 go_enter Tryz.func160,Tryz.ntmps160
 go_wp2_with fail
 go_loop [8] (fun i=>∃ k:Nat,k<=L.length/\i=.int .i64 k/\a3z p L 0=a3z p (L.drop k) k) (fun i=>L.length-(intOf i).toNat)
 case atStart=>exact⟨0,Nat.zero_le _,rfl,rfl⟩
 case round =>
  obtain⟨j,hj,rfl,hu⟩:=hrel;have HU:=a0b hu;clear hu
  by_cases hlt:j<L.length
  ·have hi:(j:Int)<(L.length:Int):=by omega
   obtain⟨H,cap',e1⟩:=Joins.ownsRow_form OWN.out (by omega);simp only[Value.slice.injEq,true_and] at e1;obtain⟨rfl,rfl⟩:=e1;have a0:=OWN.out.cellAt j (by omega);rw[List.getElem?_map,List.getElem?_eq_getElem hlt,Option.map_some] at a0;unfold a5x at a0;have D1:=a0b (TE.out L[j] (zg hlt));have ed:a3z p (L.drop j) j=if p L[j] then (j:Int) else a3z p (L.drop (j+1)) ((j+1:Nat):Int):=by rw[List.drop_eq_getElem_cons hlt];rfl
   have ED:=a0b ed;clear ed
   cases hq:p L[j]
   ·have HN:Hid (a3z p L 0=a3z p (L.drop (j+1)) ((j+1:Nat):Int)):=by show _=_;rw[HU.out,ED.out,hq];rfl
    rw[hq] at D1;clear hq
    go_wp2_with fail
    refine D1.out.mono ?_;rintro e w1 ⟨rfl,hw⟩;rw[hw];clear a0 D1 hw
    go_wp2_with fail
    go_round
    case rel=>exact⟨j+1,by omega,by go_num,HN.out⟩
    case measure=>simp[intOf];omega
   ·have HN:Hid (a3z p L 0=j):=by show _=_;rw[HU.out,ED.out,hq];rfl
    rw[hq] at D1;clear hq
    go_wp2_with fail
    refine D1.out.mono ?_;rintro e w1 ⟨rfl,hw⟩;rw[hw];clear a0 D1 hw
    go_wp2_with fail
    go_ret;exact⟨a1L HN.out.symm,rfl⟩
  ·have hi:¬ (j:Int)<(L.length:Int):=by omega
   have e:L.drop j=[]:=List.drop_eq_nil_of_le (by omega);have HN:Hid (a3z p L 0=-1):=by show _=_;rw[HU.out,e];rfl
   clear e
   go_wp2_with fail
   go_ret;exact⟨a1L HN.out.symm,rfl⟩
theorem c1e(L:List Nat)(p:Nat->Bool)(v:Value)(w:World)(ht:∀ wx,Off v.ownBlock.toList w wx->c1D wx L p)(own:w.ownsRow 0 197 1 v L.length (L.map a5x))(hl:L.length<=1000):
  Calls Tryz.prog 106 #[v,.func (.func 107) #[] #[]] w fun e w'=>∃ v',e=.returned v'/\Off v.ownBlock.toList w w'/\w'.ownsRow 0 197 1 v' (L.filter fun b=>!p b).length ((L.filter fun b=>!p b).map a5x)/\v'.ownBlock=v.ownBlock:=by
 have IX:=a0b (b5e L p v w (ht w (Off.refl _ _)) own hl);have hq:=a7F p L 0
 go_enter Tryz.func106,Tryz.ntmps106
 go_wp2_with fail
 refine IX.out.mono ?_;rintro e w1 ⟨rfl,rfl⟩;rcases hq with ⟨e1,e2⟩|⟨k,hk,e1,e2,e3⟩
 ·rw[e1];have ef:(L.filter fun b=>!p b)=L:=List.filter_eq_self.2 (fun b hb=>by simp[e2 b hb]);have HF:Hid (w1.ownsRow 0 197 1 v (L.filter fun b=>!p b).length ((L.filter fun b=>!p b).map a5x)):=by show w1.ownsRow _ _ _ _ _ _;rw[ef];exact own
  clear e1 e2 ef IX ht own
  go_wp2_with fail
  go_ret;exact⟨v,rfl,Off.refl _ _,HF.out,rfl⟩
 ·have hpos:0<L.length:=by omega
  obtain⟨H,cap,hv⟩:=Joins.ownsRow_form own hpos;subst hv;rw[e1,Int.zero_add];have D0:=a0b (a8s.new hk e2 e3);have OWN:=a0b own;have HT:=a0b ht;have w3:IntKind.i64.wrap ((k:Int)+1)=((k+1:Nat):Int):=by rw[a0i (by omega) (by omega)];omega
  have hne:((k:Int)==-1)=false:=by simp
  clear e1 e2 e3 IX ht own
  go_wp2_with fail
  go_loopw [5,6,7] (fun vi vj _ wx=>∃ (i j:Nat) (M:List Nat),vi=.int .i64 i/\vj=.int .i64 j/\a8s L p i j M/\Off [H] w1 wx/\wx.ownsRow 0 197 1 (.slice (some ⟨H,0,none⟩) L.length cap) L.length (M.map a5x)) (fun _ vj _ _=>L.length-(intOf vj).toNat)
  case atStart=>exact⟨k,k+1,L,rfl,rfl,D0.out,Off.refl _ _,OWN.out⟩
  case round =>
   obtain⟨i,j,M,rfl,rfl,hd,ho,hw⟩:=hrel;have hij:=hd.ij;have hjl:=hd.jl;have hml:=hd.len;have HD:=a0b (zA hd (zA ho hw))
   by_cases hlt:j<L.length
   ·have hj:(j:Int)<(L.length:Int):=by omega
    have hi:(i:Int)<(L.length:Int):=by omega
    have a0:=hw.cellAt j (by omega);rw[List.getElem?_map,hd.hi j (zq _),List.getElem?_eq_getElem hlt,Option.map_some] at a0;have b0:=hw.cellAt i (by omega);rw[List.getElem?_map,List.getElem?_eq_getElem (by omega),Option.map_some] at b0;have f0:=hw.frozenAt i;unfold a5x at a0 b0;have D1:=a0b (HT.out wr ho L[j] (zg hlt));have wi:IntKind.i64.wrap ((i:Int)+1)=((i+1:Nat):Int):=by rw[a0i (by omega) (by omega)];omega
    have wj:IntKind.i64.wrap ((j:Int)+1)=((j+1:Nat):Int):=by rw[a0i (by omega) (by omega)];omega
    clear ho hd
    cases hq:p L[j]
    ·have DN:=a0b (HD.out.1.a9i hlt hq);have WN:=a0b ((hw.stored i (a5x L[j])).1);have ON:=a0b (HD.out.2.1.trans (Off.set0 H wr i (a5x L[j])));rw[hq] at D1;unfold a5x at WN ON;clear hq hw
     go_wp2_with fail
     refine D1.out.mono ?_;rintro e w2 ⟨rfl,hw⟩;rw[hw];clear D1 hw
     go_wp2_with fail
     go_roundw
     case rel=>exact⟨i+1,j+1,M.set i L[j],rfl,rfl,DN.out,ON.out,by rw[List.map_set];exact WN.out⟩
     case measure=>simp[intOf];omega
    ·have DN:=a0b (HD.out.1.skip hlt hq);rw[hq] at D1;clear hq hw
     go_wp2_with fail
     refine D1.out.mono ?_;rintro e w2 ⟨rfl,hw⟩;rw[hw];clear D1 hw
     go_wp2_with fail
     go_roundw
     case rel=>exact⟨i,j+1,M,rfl,rfl,DN.out,HD.out.2.1,HD.out.2.2⟩
     case measure=>simp[intOf];omega
   ·have hj:¬ ((j:Int)<(L.length:Int)):=by omega
    have hje:j=L.length:=by omega
    have hcap:L.length<=cap:=by
     rcases hw.2 with ⟨h0,_⟩|⟨g',cap',cur,hv,_,_,h1,_⟩
     ·cases h0
     ·cases hv;exact h1
    have hcl:∀ ty,(Builtin.clear_ #[139] ty #[.slice (some ⟨H,i,none⟩) (L.length-i) (cap-i)]).run Tryz.prog wr=.ok (.tuple #[]) (wr.setCells H i (List.replicate (L.length-i) (.pointer none))) :=
     fun ty=>Lib.run_clear_slice wr _ _ ty (.pointer none) Tryz.underlying139 (fun w=>by simp[go_sem]) rfl rfl H i _ _ (by omega) (fun t ht=>by rw[hw.cellAt (i+t) (by omega)];simp;omega) (fun t ht=>hw.frozenAt (i+t))
    have hii:(i:Int)<=(L.length:Int):=by omega
    have hic:(i:Int)<=(cap:Int):=by omega
    have HF:Hid (Off [H] w1 (wr.setCells H i (List.replicate (L.length-i) (.pointer none)))/\(wr.setCells H i (List.replicate (L.length-i) (.pointer none))).ownsRow 0 197 1 (.slice (some ⟨H,0,none⟩) i cap) (L.filter fun b=>!p b).length ((L.filter fun b=>!p b).map a5x)):=by
     have e1:(L.filter fun b=>!p b)=M.take i:=by rw[hd.lo,hje,List.take_of_length_le (zq _)]
     have e2:(M.take i).length=i:=by rw[List.length_take];omega
     refine⟨ho.trans (a5a _ _ _),?_⟩;rw[e1,e2,List.map_take];exact a4Z _ i wr (zq _) (b6j hw (by omega))
    clear hd ho hw HD HT OWN D0 hje
    go_wp2_with fail
    go_ret;exact⟨_,rfl,HF.out.1,HF.out.2,rfl⟩
def c1C(A:Nat)(w:World)(L:List Nat)(p:Nat->Bool):Prop :=
 ∀ b∈L,Calls Tryz.prog 206 #[.pointer (some ⟨b,0,none⟩),.pointer (some ⟨A,0,none⟩)] w fun e w'=>e=.returned (.bool (p b))/\w'=w
theorem b5d(A:Nat)(L:List Nat)(p:Nat->Bool)(v:Value)(w:World)(ht:c1C A w L p)(own:w.ownsRow 0 197 1 v L.length (L.map a5x))(hl:L.length<=1000):
  Calls Tryz.prog 160 #[v,.func (.func 206) #[] #[.pointer (some ⟨A,0,none⟩)]] w fun e w'=>e=.returned (.int .i64 (a3z p L 0))/\w'=w:=by
 have hv:∃ a cap,v=.slice a L.length cap:=by
  rcases own.2 with ⟨rfl,h⟩|⟨g,cap,_,rfl,_⟩
  ·rw[h];exact⟨_,_,rfl⟩
  ·exact⟨_,_,rfl⟩
 obtain⟨a,cap,rfl⟩:=hv;have OWN:=a0b own;have TE:=a0b ht;clear own ht
 go_enter Tryz.func160,Tryz.ntmps160
 go_wp2_with fail
 go_loop [8] (fun i=>∃ k:Nat,k<=L.length/\i=.int .i64 k/\a3z p L 0=a3z p (L.drop k) k) (fun i=>L.length-(intOf i).toNat)
 case atStart=>exact⟨0,Nat.zero_le _,rfl,rfl⟩
 case round =>
  obtain⟨j,hj,rfl,hu⟩:=hrel;have HU:=a0b hu;clear hu
  by_cases hlt:j<L.length
  ·have hi:(j:Int)<(L.length:Int):=by omega
   obtain⟨H,cap',e1⟩:=Joins.ownsRow_form OWN.out (by omega);simp only[Value.slice.injEq,true_and] at e1;obtain⟨rfl,rfl⟩:=e1;have a0:=OWN.out.cellAt j (by omega);rw[List.getElem?_map,List.getElem?_eq_getElem hlt,Option.map_some] at a0;unfold a5x at a0;have D1:=a0b (TE.out L[j] (zg hlt));have ed:a3z p (L.drop j) j=if p L[j] then (j:Int) else a3z p (L.drop (j+1)) ((j+1:Nat):Int):=by rw[List.drop_eq_getElem_cons hlt];rfl
   have ED:=a0b ed;clear ed
   cases hq:p L[j]
   ·have HN:Hid (a3z p L 0=a3z p (L.drop (j+1)) ((j+1:Nat):Int)):=by show _=_;rw[HU.out,ED.out,hq];rfl
    rw[hq] at D1;clear hq
    go_wp2_with fail
    refine D1.out.mono ?_;rintro e w1 ⟨rfl,hw⟩;rw[hw];clear a0 D1 hw
    go_wp2_with fail
    go_round
    case rel=>exact⟨j+1,by omega,by go_num,HN.out⟩
    case measure=>simp[intOf];omega
   ·have HN:Hid (a3z p L 0=j):=by show _=_;rw[HU.out,ED.out,hq];rfl
    rw[hq] at D1;clear hq
    go_wp2_with fail
    refine D1.out.mono ?_;rintro e w1 ⟨rfl,hw⟩;rw[hw];clear a0 D1 hw
    go_wp2_with fail
    go_ret;exact⟨a1L HN.out.symm,rfl⟩
  ·have hi:¬ (j:Int)<(L.length:Int):=by omega
   have e:L.drop j=[]:=List.drop_eq_nil_of_le (by omega);have HN:Hid (a3z p L 0=-1):=by show _=_;rw[HU.out,e];rfl
   clear e
   go_wp2_with fail
   go_ret;exact⟨a1L HN.out.symm,rfl⟩
theorem c1d(A:Nat)(L:List Nat)(p:Nat->Bool)(v:Value)(w:World)(ht:∀ wx,Off v.ownBlock.toList w wx->c1C A wx L p)(own:w.ownsRow 0 197 1 v L.length (L.map a5x))(hl:L.length<=1000):
  Calls Tryz.prog 106 #[v,.func (.func 206) #[] #[.pointer (some ⟨A,0,none⟩)]] w fun e w'=>∃ v',e=.returned v'/\Off v.ownBlock.toList w w'/\w'.ownsRow 0 197 1 v' (L.filter fun b=>!p b).length ((L.filter fun b=>!p b).map a5x)/\v'.ownBlock=v.ownBlock:=by
 have IX:=a0b (b5d A L p v w (ht w (Off.refl _ _)) own hl);have hq:=a7F p L 0
 go_enter Tryz.func106,Tryz.ntmps106
 go_wp2_with fail
 refine IX.out.mono ?_;rintro e w1 ⟨rfl,rfl⟩;rcases hq with ⟨e1,e2⟩|⟨k,hk,e1,e2,e3⟩
 ·rw[e1];have ef:(L.filter fun b=>!p b)=L:=List.filter_eq_self.2 (fun b hb=>by simp[e2 b hb]);have HF:Hid (w1.ownsRow 0 197 1 v (L.filter fun b=>!p b).length ((L.filter fun b=>!p b).map a5x)):=by show w1.ownsRow _ _ _ _ _ _;rw[ef];exact own
  clear e1 e2 ef IX ht own
  go_wp2_with fail
  go_ret;exact⟨v,rfl,Off.refl _ _,HF.out,rfl⟩
 ·have hpos:0<L.length:=by omega
  obtain⟨H,cap,hv⟩:=Joins.ownsRow_form own hpos;subst hv;rw[e1,Int.zero_add];have D0:=a0b (a8s.new hk e2 e3);have OWN:=a0b own;have HT:=a0b ht;have w3:IntKind.i64.wrap ((k:Int)+1)=((k+1:Nat):Int):=by rw[a0i (by omega) (by omega)];omega
  have hne:((k:Int)==-1)=false:=by simp
  clear e1 e2 e3 IX ht own
  go_wp2_with fail
  go_loopw [5,6,7] (fun vi vj _ wx=>∃ (i j:Nat) (M:List Nat),vi=.int .i64 i/\vj=.int .i64 j/\a8s L p i j M/\Off [H] w1 wx/\wx.ownsRow 0 197 1 (.slice (some ⟨H,0,none⟩) L.length cap) L.length (M.map a5x)) (fun _ vj _ _=>L.length-(intOf vj).toNat)
  case atStart=>exact⟨k,k+1,L,rfl,rfl,D0.out,Off.refl _ _,OWN.out⟩
  case round =>
   obtain⟨i,j,M,rfl,rfl,hd,ho,hw⟩:=hrel;have hij:=hd.ij;have hjl:=hd.jl;have hml:=hd.len;have HD:=a0b (zA hd (zA ho hw))
   by_cases hlt:j<L.length
   ·have hj:(j:Int)<(L.length:Int):=by omega
    have hi:(i:Int)<(L.length:Int):=by omega
    have a0:=hw.cellAt j (by omega);rw[List.getElem?_map,hd.hi j (zq _),List.getElem?_eq_getElem hlt,Option.map_some] at a0;have b0:=hw.cellAt i (by omega);rw[List.getElem?_map,List.getElem?_eq_getElem (by omega),Option.map_some] at b0;have f0:=hw.frozenAt i;unfold a5x at a0 b0;have D1:=a0b (HT.out wr ho L[j] (zg hlt));have wi:IntKind.i64.wrap ((i:Int)+1)=((i+1:Nat):Int):=by rw[a0i (by omega) (by omega)];omega
    have wj:IntKind.i64.wrap ((j:Int)+1)=((j+1:Nat):Int):=by rw[a0i (by omega) (by omega)];omega
    clear ho hd
    cases hq:p L[j]
    ·have DN:=a0b (HD.out.1.a9i hlt hq);have WN:=a0b ((hw.stored i (a5x L[j])).1);have ON:=a0b (HD.out.2.1.trans (Off.set0 H wr i (a5x L[j])));rw[hq] at D1;unfold a5x at WN ON;clear hq hw
     go_wp2_with fail
     refine D1.out.mono ?_;rintro e w2 ⟨rfl,hw⟩;rw[hw];clear D1 hw
     go_wp2_with fail
     go_roundw
     case rel=>exact⟨i+1,j+1,M.set i L[j],rfl,rfl,DN.out,ON.out,by rw[List.map_set];exact WN.out⟩
     case measure=>simp[intOf];omega
    ·have DN:=a0b (HD.out.1.skip hlt hq);rw[hq] at D1;clear hq hw
     go_wp2_with fail
     refine D1.out.mono ?_;rintro e w2 ⟨rfl,hw⟩;rw[hw];clear D1 hw
     go_wp2_with fail
     go_roundw
     case rel=>exact⟨i,j+1,M,rfl,rfl,DN.out,HD.out.2.1,HD.out.2.2⟩
     case measure=>simp[intOf];omega
   ·have hj:¬ ((j:Int)<(L.length:Int)):=by omega
    have hje:j=L.length:=by omega
    have hcap:L.length<=cap:=by
     rcases hw.2 with ⟨h0,_⟩|⟨g',cap',cur,hv,_,_,h1,_⟩
     ·cases h0
     ·cases hv;exact h1
    have hcl:∀ ty,(Builtin.clear_ #[139] ty #[.slice (some ⟨H,i,none⟩) (L.length-i) (cap-i)]).run Tryz.prog wr=.ok (.tuple #[]) (wr.setCells H i (List.replicate (L.length-i) (.pointer none))) :=
     fun ty=>Lib.run_clear_slice wr _ _ ty (.pointer none) Tryz.underlying139 (fun w=>by simp[go_sem]) rfl rfl H i _ _ (by omega) (fun t ht=>by rw[hw.cellAt (i+t) (by omega)];simp;omega) (fun t ht=>hw.frozenAt (i+t))
    have hii:(i:Int)<=(L.length:Int):=by omega
    have hic:(i:Int)<=(cap:Int):=by omega
    have HF:Hid (Off [H] w1 (wr.setCells H i (List.replicate (L.length-i) (.pointer none)))/\(wr.setCells H i (List.replicate (L.length-i) (.pointer none))).ownsRow 0 197 1 (.slice (some ⟨H,0,none⟩) i cap) (L.filter fun b=>!p b).length ((L.filter fun b=>!p b).map a5x)):=by
     have e1:(L.filter fun b=>!p b)=M.take i:=by rw[hd.lo,hje,List.take_of_length_le (zq _)]
     have e2:(M.take i).length=i:=by rw[List.length_take];omega
     refine⟨ho.trans (a5a _ _ _),?_⟩;rw[e1,e2,List.map_take];exact a4Z _ i wr (zq _) (b6j hw (by omega))
    clear hd ho hw HD HT OWN D0 hje
    go_wp2_with fail
    go_ret;exact⟨_,rfl,HF.out.1,HF.out.2,rfl⟩
def a5U(c:Col):Prop:=c=.me\/c=.wa\/c=.desk\/∃ i,c=.a0k i
def b4c(w:World)(d:Nat)(r:Raw)(col:Nat->Option Col)(g:EG)(i:Nat)(hi:i<r.tg.length)(w':World):Prop :=
 ∃ col',DK w' d ({ r with eg:=a1F g.e.id r.eg }.setT i (r.tg[i].with (a1z r.tg[i].A g.e.a0e (-g.e.a0c)) (a4w g.e.id r.tg[i].T g.e.a0e))) col'/\Step a5U w.heap.size col col' w w'
theorem c3P(w:World):(zeroValue 197).run Tryz.prog w=.ok (.pointer none) w:=by simp[go_sem]
theorem b8i(h:DK w d r col){g:EG}(hg:g∈r.eg)(hk:g.e.kind≠3)(i:Nat)(hi:i<r.tg.length)(ht:g.tb=r.tg[i].tb)(hf:Fit r.tg[i] g.e)(ho:Avl.Ord (Avl.a0w r.tg[i].T))(hz:Avl.size r.tg[i].T<=9000)(hA:∀ p,0<=a1z r.tg[i].A g.e.a0e (-g.e.a0c) p)(hid:0<=g.e.id/\g.e.id<=1000):
  Calls Tryz.prog 150 #[.pointer (some ⟨d,0,none⟩),.pointer (some ⟨g.eb,0,none⟩)] w fun e w'=>e=.returned (.tuple #[])/\b4c w d r col g i hi w':=by
 have hX:Below w.heap.size w (w.alloc (.cells #[.pointer (some ⟨g.eb,0,none⟩)] 197)):=(zr _ _).alloc (zq _) _;have hx:=h.later hX;have xb:(w.alloc (.cells #[.pointer (some ⟨g.eb,0,none⟩)] 197)).cell? ⟨w.heap.size,0,none⟩=some (.pointer (some ⟨g.eb,0,none⟩)):=by simp
 have hxs:w.heap.size<(w.alloc (.cells #[.pointer (some ⟨g.eb,0,none⟩)] 197)).heap.size:=by simp
 have hcn:col w.heap.size=none:=by
  cases e:col w.heap.size with
  |none=>rfl
  |some c=>have:=h.lt _ _ e;omega
 have HX:=a0b (zA hX (zA hxs hcn));clear h hX hxs hcn
 go_enter Tryz.func150,Tryz.ntmps150
 go_upto_region 1 with fail
 generalize (w.alloc (.cells #[.pointer (some ⟨g.eb,0,none⟩)] 197))=X at hx xb HX ⊢;obtain⟨g1,g2,g3⟩:=hx.en g hg;obtain⟨m,f,a1,a2,a3,a4⟩:=hx.me;have c0:=g1.en.c0;have hkb:(g.e.kind != 3)=true:=by simpa using hk
 have kk:=a9g (n:=g.e.id) (by omega) (by omega);obtain⟨w1,hrun,p1,p2⟩:=(a3.block (w':=X.drew) rfl).dropRun b3h Tryz.underlying138 kk 0;have hxd:=hx.later (a0q X);have DD:=a0b (hxd.delE a1 a2 a4 g.e.id p1 p2);have E1:=a0b (DD.out.2.enk (hxd.en g hg).1 (.inl ⟨_,g2,by simp⟩) (.inl ⟨_,g3,by simp⟩));have ck1:=E1.out.k;have co1:=E1.out.en.c1;have xb1:w1.cell? ⟨w.heap.size,0,none⟩=some (.pointer (some ⟨g.eb,0,none⟩)):=(zo (w:=X) (DD.out.2.blockN HX.out.2.1 HX.out.2.2 HX.out.2.1)).trans xb;clear hx hxd a3 p1 p2 a4
 go_big_region
 clear hrun xb a1 c0;have hN1:w.heap.size<w1.heap.size:=World.block_lt_of_cell? _ _ xb1;have NCOL:=a0b (zA HX.out.2.2 hN1);have XB:=a0b HX.out.1;have G23:=a0b (zA g2 g3);have RL:=a0b (fun wx (k:Below w1.heap.size w1 wx)=>b3G (DD.out.1.later k) i hi (E1.out.off (G:=[]) (Off.of_below k) (by simp) (by simp)) ht (by rw[g2];simp) (by rw[g3];simp) hf ho hz hA);clear g1 g2 g3 hf ho hz hA HX kk a2 ht;generalize w.heap.size=N at xb1 NCOL ⊢
 have AF:Hid (∀ w2 col2,Step (·=.a0k i) w1.drew.heap.size col col2 w1.drew w2->w2.cell? ⟨N,0,none⟩=some (.pointer (some ⟨g.eb,0,none⟩))/\w2.cell? ⟨g.eb,2,none⟩=some (.pointer (some ⟨g.tb,0,none⟩))):=fun w2 col2 q2 =>
  ⟨(zo (w:=w1) (q2.blockN NCOL.out.2 NCOL.out.1 NCOL.out.2)).trans xb1,q2.cellC G23.out.1 (by simp) co1⟩
 go_upto_region 3 with fail
 go_region_held3 (fun w'=>w'.cell? ⟨N,0,none⟩=some (.pointer (some ⟨g.eb,0,none⟩))/\w'.cell? ⟨g.eb,2,none⟩=some (.pointer (some ⟨g.tb,0,none⟩)))
  (first
   |exact⟨xb1,co1⟩
   |exact AF.out _ _ q2)
  (first
   |(go_at_call 205;refine (RL.out _ (a0q w1)).mono ?_;rintro e w2 ⟨rfl,col2,q1,q2⟩))
 have HF:Hid (b4c w d r col g i hi w2):=by
  have t0:Step a5U w.heap.size col col w X:=Step.below XB.out;have t1:Step a5U w.heap.size col col w w1:=t0.trans ((Step.below (a0q X)).trans (DD.out.2.mono (fun c hc=>.inl hc) t0.size));have t2:Step a5U w.heap.size col col w w1.drew:=t1.trans (Step.below (a0q w1));exact⟨col2,q1,t2.trans (q2.mono (fun c hc=>.inr (.inr (.inr ⟨i,hc⟩))) t2.size)⟩
 clear q1 q2 RL DD E1
 go_wp2_with fail
 (try simp only[Exit.inBlock,Exit.then]);refine bodyPost_ret (results_none rfl _ _ _) rfl ?_
 exact⟨rfl,HF.out⟩
def b1j(w:World)(d:Nat)(r:Raw)(col:Nat->Option Col)(g:EG)(w':World):Prop :=
 ∃ col',DK w' d { r with eg:=a1F g.e.id r.eg,wl:=r.wl.filter fun b=>!(b==g.eb) } col'/\Step a5U w.heap.size col col' w w'
theorem b8h(h:DK w d r col){g:EG}(hg:g∈r.eg)(hk:g.e.kind=3)(hid:0<=g.e.id/\g.e.id<=1000)(hwl:∀ b∈r.wl,∃ x∈r.eg,x.eb=b)(hwn:r.wl.length<=1000):
  Calls Tryz.prog 150 #[.pointer (some ⟨d,0,none⟩),.pointer (some ⟨g.eb,0,none⟩)] w fun e w'=>e=.returned (.tuple #[])/\b1j w d r col g w':=by
 have hX:Below w.heap.size w (w.alloc (.cells #[.pointer (some ⟨g.eb,0,none⟩)] 197)):=(zr _ _).alloc (zq _) _;have hx:=h.later hX;have xb:(w.alloc (.cells #[.pointer (some ⟨g.eb,0,none⟩)] 197)).cell? ⟨w.heap.size,0,none⟩=some (.pointer (some ⟨g.eb,0,none⟩)):=by simp
 have hxs:w.heap.size<(w.alloc (.cells #[.pointer (some ⟨g.eb,0,none⟩)] 197)).heap.size:=by simp
 have hcn:col w.heap.size=none:=by
  cases e:col w.heap.size with
  |none=>rfl
  |some c=>have:=h.lt _ _ e;omega
 have HX:=a0b (zA hX (zA hxs hcn));clear h hX hxs hcn
 go_enter Tryz.func150,Tryz.ntmps150
 go_upto_region 1 with fail
 generalize (w.alloc (.cells #[.pointer (some ⟨g.eb,0,none⟩)] 197))=X at hx xb HX ⊢;obtain⟨g1,g2,g3⟩:=hx.en g hg;obtain⟨m,f,a1,a2,a3,a4⟩:=hx.me;have c0:=g1.en.c0;have hkb:(g.e.kind != 3)=false:=by simpa using hk
 have kk:=a9g (n:=g.e.id) (by omega) (by omega);obtain⟨w1,hrun,p1,p2⟩:=(a3.block (w':=X.drew) rfl).dropRun b3h Tryz.underlying138 kk 0;have hxd:=hx.later (a0q X);have DD:=a0b (hxd.delE a1 a2 a4 g.e.id p1 p2);have EC:Hid (∀ x∈r.eg,col x.eb=some .ent):=fun x hx=>(hxd.en x hx).2.1
 have E1:Hid (∀ x∈r.eg,ENK w1 x):=(fun x hx=>DD.out.2.enk (hxd.en x hx).1 (.inl ⟨_,(hxd.en x hx).2.1,by simp⟩) (.inl ⟨_,(hxd.en x hx).2.2,by simp⟩));have ck1:=(E1.out g hg).k;have xb1:w1.cell? ⟨w.heap.size,0,none⟩=some (.pointer (some ⟨g.eb,0,none⟩)):=(zo (w:=X) (DD.out.2.blockN HX.out.2.1 HX.out.2.2 HX.out.2.1)).trans xb;clear hx hxd a3 p1 p2 a4
 go_big_region
 clear hrun xb a1 c0;have hN1:w.heap.size<w1.heap.size:=World.block_lt_of_cell? _ _ xb1;have NCOL:=a0b (zA HX.out.2.2 hN1);have XB:=a0b HX.out.1;clear g1 g2 g3 HX kk a2;obtain⟨v,c4,own,hvc⟩:=DD.out.1.wa;have f4:=DD.out.1.fz 4;have hvN:w.heap.size ∉ v.ownBlock.toList:=fun e=>by have:=hvc _ (Option.mem_toList.1 e);rw[NCOL.out.1] at this;cases this
 have hvd:d ∉ v.ownBlock.toList:=fun e=>by have:=hvc _ (Option.mem_toList.1 e);rw[DD.out.1.dc] at this;cases this
 have hve:∀ x∈r.eg,x.eb ∉ v.ownBlock.toList:=fun x hx e=>by
  have h1:=hvc _ (Option.mem_toList.1 e);have h2:=EC.out x hx;rw[h2] at h1;cases h1
 have DL:=a0b (c1d w.heap.size r.wl (fun b=>b==g.eb) v w1 (fun wx k b hb=>by
  obtain⟨x,hx,rfl⟩:=hwl b hb
  have b1:∃ cs,wx.heap[g.eb]?=some (.cells cs 200 (0,0)):=by
   obtain⟨cs,e⟩:=(E1.out g hg).bl;exact⟨cs,(k.block _ (E1.out g hg).lt (hve g hg)).trans e⟩
  have b2:∃ cs,wx.heap[x.eb]?=some (.cells cs 200 (0,0)):=by
   obtain⟨cs,e⟩:=(E1.out x hx).bl;exact⟨cs,(k.block _ (E1.out x hx).lt (hve x hx)).trans e⟩
  exact b8j w.heap.size g.eb x.eb wx (k.cell hvN xb1) b1 b2) own hwn)
 have VC:=a0b (zA hvc (zA hvN hvd));clear own hvc hvN hvd hve hwl
 go_wp2_with fail
 refine DL.out.mono ?_;rintro e w2 ⟨v',rfl,k1,k2,k3⟩
 obtain⟨va,vn,vc,rfl⟩:∃ a n cap,v'=.slice a n cap:=by
  rcases k2.2 with ⟨e,_⟩|⟨_,_,_,e,_⟩
  ·exact⟨_,_,_,e⟩
  ·exact⟨_,_,_,e⟩
 have c42:=k1.cell VC.out.2.2 c4;have f42:=(k1.frozen (o:=4) VC.out.2.2 (World.block_lt_of_cell? _ _ c4)).trans f4;have SW:=a0b (DD.out.1.setWait VC.out.1 k1 k2 (fun b hb=>.inl (by rw[<- k3];exact hb)));clear k1 k2 k3 DL c4 f4 E1
 have HF:Hid (b1j w d r col g (w2.setCell ⟨d,4,none⟩ (.slice va vn vc))):=by
  have t0:Step a5U w.heap.size col col w X:=Step.below XB.out;have t1:Step a5U w.heap.size col col w w1:=t0.trans ((Step.below (a0q X)).trans (DD.out.2.mono (fun c hc=>.inl hc) t0.size));obtain⟨col2,q1,q2⟩:=SW.out;exact⟨col2,q1,t1.trans (q2.mono (fun c hc=>by rcases hc with e|e;exact .inr (.inl e);exact .inr (.inr (.inl e))) t1.size)⟩
 clear DD SW VC NCOL XB
 go_wp2_with fail
 go_end0
 exact⟨rfl,HF.out⟩
open Desk (Ent St Ids kept a0C a0Q a1C a2e ofB a0y a2c Inv)
def atE(eg:List EG)(id:Int):Nat:=(a6U eg id).getD 0
theorem b2j{eg:List EG}(hn:(eg.map (·.e.id)).Nodup){g:EG}(hg:g∈eg):atE eg g.e.id=g.eb:=by unfold atE;rw[b3E hn hg];rfl
structure Of(s:St)(r:Raw):Prop where
 now:r.now=s.now
 given:r.given=s.given
 ts:r.tg.map (fun t=>(t.name,t.a0c))=s.ts
 es:r.eg.map (·.e)=s.es
 th:∀ (i:Nat) (h:i<r.tg.length),r.tg[i].A=a1C r.tg[i].name s.es/\a2e r.tg[i].name s.es (atE r.eg) r.tg[i].T
 tb:∀ g∈r.eg,∃ (i:Nat) (h:i<r.tg.length),r.tg[i].name=g.e.a0k/\g.tb=r.tg[i].tb
def Wl(r:Raw):Prop:=r.wl=(r.eg.filter fun g=>g.e.kind==3).map (·.eb)
def a9r(g:EG):Hp.Hi:=⟨g.e.a0Z,g.e.id,g.eb⟩
def Hl(r:Raw):Prop:=Hp.a6r r.hl/\r.hl.Perm ((r.eg.filter fun g=>g.e.kind != 1).map a9r)
theorem Of.mem(h:Of s r){g:EG}(hg:g∈r.eg):g.e∈s.es:=by rw[<- h.es];exact List.mem_map.2 ⟨g,hg,rfl⟩
theorem Of.get(h:Of s r)(he:e∈s.es):∃ g∈r.eg,g.e=e:=by rw[<- h.es] at he;exact List.mem_map.1 he
theorem Of.len(h:Of s r):r.tg.length=s.ts.length:=by rw[<- h.ts];simp
theorem Of.tsAt(h:Of s r)(hi:i<r.tg.length):s.ts[i]'(by rw[<- h.len];exact hi)=(r.tg[i].name,r.tg[i].a0c):=by
 have e:(r.tg.map fun t=>(t.name,t.a0c))[i]'(by simpa using hi)=(r.tg[i].name,r.tg[i].a0c):=by simp
 rw[<- e]
 congr 1
 exact h.ts.symm
theorem a8G(hp:ts.Pairwise fun t u=>a0y t.1 u.1=false):∀ {i:Nat}(hi:i<ts.length),Desk.a0h ts[i].1 ts=ts[i].2:=by
 induction ts with
 |nil=>intro i hi;simp at hi
 |cons t ts ih =>
  intro i hi;rw[List.pairwise_cons] at hp
  cases i with
  |zero=>simp[Desk.a0h,Desk.a2u]
  |succ i =>
   have hi':i<ts.length:=by simpa using hi
   have:=hp.1 ts[i] (zg hi');simp only[List.getElem_cons_succ,Desk.a0h,this];exact ih hp.2 hi'
theorem a3o(h:∀ t∈ts,t.1≠name):Desk.a0h name ts=0:=by
 induction ts with
 |nil=>rfl
 |cons t ts ih =>
  have h1:a0y t.1 name=false:=a3d.2 (h t (by simp));simp only[Desk.a0h,h1];exact ih (fun t ht=>h t (by simp[ht]))
theorem Of.names(h:Of s r)(hp:s.ts.Pairwise fun t u=>a0y t.1 u.1=false)(hi:i<r.tg.length)(hj:j<r.tg.length)(e:r.tg[i].name=r.tg[j].name):i=j:=by
 have key:∀ {a b:Nat}(ha:a<r.tg.length) (hb:b<r.tg.length),a<b->r.tg[a].name≠r.tg[b].name:=by
  intro a b ha hb hab;have:=List.pairwise_iff_getElem.1 hp a b (by rw[<- h.len];exact ha) (by rw[<- h.len];exact hb) hab;rw[h.tsAt ha,h.tsAt hb] at this;exact a3d.1 this
 by_cases h1:i<j
 ·exact absurd e (key hi hj h1)
 ·by_cases h2:j<i
  ·exact absurd e.symm (key hj hi h2)
  ·omega
theorem a6b{L:List (Int × Int)}(h:a2c L):(L.map (·.1)).Nodup:=by
 unfold a2c at h;rw[List.nodup_iff_pairwise_ne,List.pairwise_map];exact h.imp (fun hab=>by omega)
theorem b3m{at_:Int->Nat}{T:Avl.S}{eb:Nat}{L:List (Int × Int)}(h:a2e name es at_ T)(hr:a2c L)(hno:∀ e∈es,ofB name e=true->e.id≠id)
  (hs:∀ z:Avl.It,(∃ e∈es',ofB name e=true/\∃ s∈e.a0e,z=⟨s.1,s.2,e.id,at' e.id⟩)↔(∃ e∈es,ofB name e=true/\∃ s∈e.a0e,z=⟨s.1,s.2,e.id,at_ e.id⟩)\/∃ s∈L,z=b2s id eb s):
  a2e name es' at' (a7e id eb T L)/\(∀ z∈Avl.a0w T,z.n=id->∀ s∈L,z.f≠s.1):=by
 have hcl:∀ z∈Avl.a0w T,z.n=id->∀ s∈L,z.f≠s.1:=by
  intro z hz e;obtain⟨x,hx,h1,s,_,rfl⟩:=(h.2 z).1 hz;exact absurd e (hno x hx h1)
 obtain⟨k1,_,k3,_⟩:=b4M id eb L T h.1 hcl (a6b hr);exact⟨⟨k1,fun z=>by rw[k3,h.2];exact (hs z).symm⟩,hcl⟩
theorem b8p{at_:Int->Nat}{T:Avl.S}{e0:Ent}(h:a2e name es at_ T)(hid:Ids es)(h0:e0∈es)(hat:∀ e∈es,e.id≠e0.id->at' e.id=at_ e.id):
  a2e name (kept e0.id es) at' (a4w e0.id T e0.a0e):=by
 obtain⟨k1,k2,_⟩:=b2d e0.id e0.a0e T h.1;refine⟨k1,fun z=>?_⟩;rw[k2,List.mem_filter,h.2];constructor
 ·rintro ⟨⟨e,he,h1,s,hs,rfl⟩,h2⟩
  have hne:e.id≠e0.id:=by
   intro e1;have:e=e0:=hid.one he h0 e1;subst this;have:=List.all_eq_true.1 h2 s hs;simp[Avl.a8n] at this
  exact⟨e,Desk.a4r.2 ⟨he,hne⟩,h1,s,hs,by rw[hat e he hne]⟩
 ·rintro ⟨e,he,h1,s,hs,rfl⟩;obtain⟨he,hne⟩:=Desk.a4r.1 he;refine⟨⟨e,he,h1,s,hs,by rw[hat e he hne]⟩,?_⟩;rw[List.all_eq_true];intro t _;simp[Avl.a8n,hne]
theorem a4b{at_:Int->Nat}{T:Avl.S}(h:a2e name es at_ T)(h1:∀ e,ofB name e=true->(e∈es'↔e∈es))(hat:∀ e∈es,ofB name e=true->at' e.id=at_ e.id):a2e name es' at' T:=by
 refine⟨h.1,fun z=>?_⟩;rw[h.2];constructor
 ·rintro ⟨e,he,h2,s,hs,rfl⟩;exact⟨e,(h1 e h2).2 he,h2,s,hs,by rw[hat e he h2]⟩
 ·rintro ⟨e,he,h2,s,hs,rfl⟩;have he':=(h1 e h2).1 he;exact⟨e,he',h2,s,hs,by rw[hat e he' h2]⟩
theorem Of.turn(h:Of s r)(hp:s.ts.Pairwise fun t u=>a0y t.1 u.1=false)(hi:i<r.tg.length){eg':List EG}{A':List Bool->Int}{T':Avl.S}(he:eg'.map (·.e)=es')(h1:A'=a1C r.tg[i].name es')(h2:a2e r.tg[i].name es' (atE eg') T')
  (h3:∀ (name:ByteArray) (T:Avl.S),name≠r.tg[i].name->a1C name es'=a1C name s.es/\(a2e name s.es (atE r.eg) T->a2e name es' (atE eg') T)) (h4:∀ g∈eg',∃ (i:Nat) (h:i<r.tg.length),r.tg[i].name=g.e.a0k/\g.tb=r.tg[i].tb):
  Of { s with es:=es' } ({ r with eg:=eg' }.setT i (r.tg[i].with A' T')):=by
 have hlen:({ r with eg:=eg' }.setT i (r.tg[i].with A' T')).tg.length=r.tg.length:=by simp[Raw.setT]
 have hname:∀ (j:Nat) (hj:j<r.tg.length),(({ r with eg:=eg' }.setT i (r.tg[i].with A' T')).tg[j]'(by rw[hlen];exact hj)).name=r.tg[j].name/\(({ r with eg:=eg' }.setT i (r.tg[i].with A' T')).tg[j]'(by rw[hlen];exact hj)).tb=r.tg[j].tb:=by
  intro j hj
  by_cases e:i=j
  ·subst e;simp[Raw.setT,TG.with]
  ·simp[Raw.setT,e]
 refine⟨h.now,h.given,?_,he,fun j hj=>?_,fun g hg=>?_⟩
 ·rw[<- h.ts];show (r.tg.set i (r.tg[i].with A' T')).map _=_;rw[List.map_set];have:((r.tg[i].with A' T').name,(r.tg[i].with A' T').a0c)=(r.tg.map fun t=>(t.name,t.a0c))[i]'(by simpa using hi):=by simp[TG.with]
  rw[this,List.set_getElem_self]
 ·have hj':j<r.tg.length:=by rw[<- hlen];exact hj
  by_cases e:i=j
  ·subst e;have e2:({ r with eg:=eg' }.setT i (r.tg[i].with A' T')).tg[i]=r.tg[i].with A' T':=by simp[Raw.setT]
   rw[e2];exact⟨h1,h2⟩
  ·have e2:({ r with eg:=eg' }.setT i (r.tg[i].with A' T')).tg[j]=r.tg[j]:=by simp[Raw.setT,e]
   rw[e2];obtain⟨k1,k2⟩:=h3 r.tg[j].name r.tg[j].T (fun en=>e (h.names hp hi hj' en.symm));obtain⟨q1,q2⟩:=h.th j hj';exact⟨q1.trans k1.symm,k2 q2⟩
 ·obtain⟨j,hj,e1,e2⟩:=h4 g hg;exact⟨j,by rw[hlen];exact hj,(hname j hj).1.trans e1,e2.trans (hname j hj).2.symm⟩
theorem b5Y(id:Int)(eg:List EG):(a1R id 1 0 eg).map (·.e)=a0C id (eg.map (·.e)):=by
 unfold a1R a0C;rw[List.map_map,List.map_map];apply List.map_congr_left;intro g _;simp only[Function.comp]
 split <;> rfl
theorem b6M(id:Int)(eg:List EG):(a1F id eg).map (·.e)=kept id (eg.map (·.e)):=by
 unfold a1F kept;rw[List.filter_map];rfl
theorem b2N{kind a0Z:Int}{eg:List EG}{x:EG}(h:x∈a1R id kind a0Z eg):∃ y∈eg,x.eb=y.eb/\x.tb=y.tb/\x.e.a0k=y.e.a0k/\x.e.id=y.e.id:=by
 obtain⟨y,hy,rfl⟩:=List.mem_map.1 h;refine⟨y,hy,?_⟩
 split <;> exact⟨rfl,rfl,rfl,rfl⟩
theorem a9S(id kind a0Z:Int)(eg:List EG):atE (a1R id kind a0Z eg)=atE eg:=by funext x;unfold atE;rw[b5Z]
theorem Of.book(h:Of s r)(hp:s.ts.Pairwise fun t u=>a0y t.1 u.1=false)(hid:Ids s.es)(hn:(r.eg.map (·.e.id)).Nodup){g:EG}(hg:g∈r.eg)(hk:g.e.kind=3)(hr:a2c g.e.a0e)(hi:i<r.tg.length)(hname:r.tg[i].name=g.e.a0k):
  Of { s with es:=a0C g.e.id s.es } ({ r with eg:=a1R g.e.id 1 0 r.eg }.setT i (r.tg[i].with (a1z r.tg[i].A g.e.a0e g.e.a0c) (a7e g.e.id g.eb r.tg[i].T g.e.a0e)))/\(∀ z∈Avl.a0w r.tg[i].T,z.n=g.e.id->∀ s∈g.e.a0e,z.f≠s.1):=by
 obtain⟨t1,t2⟩:=h.th i hi;have hm:=h.mem hg
 have hno3:∀ (name:ByteArray) (e:Ent),e∈s.es->ofB name e=true->e.id≠g.e.id:=by
  intro name e he h1 e1;have:e=g.e:=hid.one he hm e1;subst this;simp[ofB,hk] at h1
 have hb1:ofB r.tg[i].name (a0Q g.e)=true:=by rw[Desk.a3I,hname];exact Desk.a2u _
 have hP:=b3m (id:=g.e.id) (eb:=g.eb) (L:=g.e.a0e) (es':=a0C g.e.id s.es) (at':=atE (a1R g.e.id 1 0 r.eg)) t2 hr (fun e he h1=>hno3 _ e he h1) (fun z=>by
  rw[a9S];constructor
  ·rintro ⟨e,he,h1,q,hq,rfl⟩;rcases Desk.a2b.1 he with ⟨he,_⟩|⟨y,hy,hye,rfl⟩
   ·exact .inl ⟨e,he,h1,q,hq,rfl⟩
   ·have:y=g.e:=hid.one hy hm hye;subst this;exact .inr ⟨q,hq,by unfold b2s;rw[show (a0Q g.e).id=g.e.id from rfl,b2j hn hg]⟩
  ·rintro (⟨e,he,h1,q,hq,rfl⟩|⟨q,hq,rfl⟩)
   ·exact⟨e,Desk.a2b.2 (.inl ⟨he,hno3 _ e he h1⟩),h1,q,hq,rfl⟩
   ·exact⟨a0Q g.e,Desk.a2b.2 (.inr ⟨g.e,hm,rfl,rfl⟩),hb1,q,hq,by unfold b2s;rw[show (a0Q g.e).id=g.e.id from rfl,b2j hn hg]⟩)
 refine⟨h.turn hp hi (by rw[b5Y,h.es]) ?_ hP.1 (fun name T hne=>⟨?_,fun hT=>?_⟩) (fun x hx=>?_),hP.2⟩
 ·rw[t1];exact Desk.a8R (by rw[hname];exact Desk.a2u _) hk hid hm
 ·refine Desk.a3Q (fun e he e1 h1=>?_);have:e=g.e:=hid.one he hm e1;subst this;exact absurd (a4l.1 h1) (fun e2=>hne (by rw[hname,e2]))
 ·refine a4b hT (fun e h1=>?_) (fun e _ _=>by rw[a9S]);constructor
  ·intro he;rcases Desk.a2b.1 he with ⟨he,_⟩|⟨y,hy,hye,rfl⟩
   ·exact he
   ·have:y=g.e:=hid.one hy hm hye;subst this;rw[Desk.a3I] at h1;exact absurd (a4l.1 h1) (fun e2=>hne (by rw[hname,e2]))
  ·intro he;exact Desk.a2b.2 (.inl ⟨he,hno3 name e he h1⟩)
 ·obtain⟨y,hy,e1,e2,e3,_⟩:=b2N hx;obtain⟨j,hj,q1,q2⟩:=h.tb y hy;exact⟨j,hj,by rw[e3];exact q1,by rw[e2];exact q2⟩
theorem b2k{eg:List EG}(hn:(eg.map (·.e.id)).Nodup)(id x:Int)(hx:x≠id):atE (a1F id eg) x=atE eg x:=by unfold atE;rw[b6N hn,if_neg hx]
theorem Of.goes(h:Of s r)(hp:s.ts.Pairwise fun t u=>a0y t.1 u.1=false)(hid:Ids s.es)(hn:(r.eg.map (·.e.id)).Nodup){g:EG}(hg:g∈r.eg)(hk:g.e.kind≠3)(hi:i<r.tg.length)(hname:r.tg[i].name=g.e.a0k):
  Of { s with es:=kept g.e.id s.es } ({ r with eg:=a1F g.e.id r.eg }.setT i (r.tg[i].with (a1z r.tg[i].A g.e.a0e (-g.e.a0c)) (a4w g.e.id r.tg[i].T g.e.a0e))):=by
 obtain⟨t1,t2⟩:=h.th i hi;have hm:=h.mem hg;have hb1:ofB r.tg[i].name g.e=true:=by simp[ofB,hname,Desk.a2u,hk]
 refine h.turn hp hi (by rw[b6M,h.es]) ?_ (b8p t2 hid hm (fun e _ hne=>b2k hn _ _ hne)) (fun name T hne=>⟨?_,fun hT=>?_⟩) (fun x hx=>h.tb x (List.mem_filter.1 hx).1)
 ·rw[t1];exact Desk.a8Q hb1 hid hm
 ·refine Desk.a4S (fun e he e1=>?_);have:e=g.e:=hid.one he hm e1;subst this;have:a0y g.e.a0k name=false:=a3d.2 (fun e2=>hne (by rw[hname,e2]));simp[ofB,this]
 ·have hne2:∀ e∈s.es,ofB name e=true->e.id≠g.e.id:=fun e he h1 e1=>by
   have:e=g.e:=hid.one he hm e1;subst this;have:a0y g.e.a0k name=false:=a3d.2 (fun e2=>hne (by rw[hname,e2]));simp[ofB,this] at h1
  exact a4b hT (fun e h1=>⟨fun he=>(Desk.a4r.1 he).1,fun he=>Desk.a4r.2 ⟨he,hne2 e he h1⟩⟩) (fun e he h1=>b2k hn _ _ (hne2 e he h1))
theorem Of.goesW(h:Of s r)(hid:Ids s.es)(hn:(r.eg.map (·.e.id)).Nodup){g:EG}(hg:g∈r.eg)(hk:g.e.kind=3):
  Of { s with es:=kept g.e.id s.es } { r with eg:=a1F g.e.id r.eg }:=by
 have hm:=h.mem hg
 have hne:∀ (name:ByteArray),∀ e∈s.es,ofB name e=true->e.id≠g.e.id:=fun name e he h1 e1=>by
  have:e=g.e:=hid.one he hm e1;subst this;simp[ofB,hk] at h1
 refine⟨h.now,h.given,h.ts,by rw[<- h.es];exact b6M _ _,fun j hj=>?_,fun x hx=>h.tb x (List.mem_filter.1 hx).1⟩;obtain⟨t1,t2⟩:=h.th j hj;refine⟨t1.trans (Desk.a4S (fun e he e1=>?_)).symm,a4b t2 (fun e h1=>⟨fun he=>(Desk.a4r.1 he).1,fun he=>Desk.a4r.2 ⟨he,hne _ e he h1⟩⟩) (fun e he h1=>b2k hn _ _ (hne _ e he h1))⟩;have:e=g.e:=hid.one he hm e1;subst this;simp[ofB,hk]
theorem a5N{eg:List EG}{g:EG}(hno:∀ x∈eg,x.e.id≠g.e.id)(x:Int):atE (eg++[g]) x=if x=g.e.id then g.eb else atE eg x:=by
 unfold atE;rw[b5W hno];split <;> rfl
theorem Of.comes(h:Of s r)(hp:s.ts.Pairwise fun t u=>a0y t.1 u.1=false){g:EG}(hno:∀ x∈r.eg,x.e.id≠g.e.id)(hk:g.e.kind≠3)(hr:a2c g.e.a0e)(hi:i<r.tg.length)(hname:r.tg[i].name=g.e.a0k)(htb:g.tb=r.tg[i].tb)(n:Int):
  Of { s with es:=s.es++[g.e],given:=n } ({ r with eg:=r.eg++[g],given:=n }.setT i (r.tg[i].with (a1z r.tg[i].A g.e.a0e g.e.a0c) (a7e g.e.id g.eb r.tg[i].T g.e.a0e)))/\(∀ z∈Avl.a0w r.tg[i].T,z.n=g.e.id->∀ s∈g.e.a0e,z.f≠s.1):=by
 obtain⟨t1,t2⟩:=h.th i hi;have hb1:ofB r.tg[i].name g.e=true:=by simp[ofB,hname,Desk.a2u,hk]
 have hno':∀ e∈s.es,e.id≠g.e.id:=fun e he=>by obtain⟨x,hx,rfl⟩:=h.get he;exact hno x hx
 have hP:=b3m (id:=g.e.id) (eb:=g.eb) (L:=g.e.a0e) (es':=s.es++[g.e]) (at':=atE (r.eg++[g])) t2 hr (fun e he _=>hno' e he) (fun z=>by
  constructor
  ·rintro ⟨e,he,h1,q,hq,rfl⟩;rcases List.mem_append.1 he with he|he
   ·exact .inl ⟨e,he,h1,q,hq,by rw[a5N hno,if_neg (hno' e he)]⟩
   ·have:e=g.e:=by simpa using he
    subst this;exact .inr ⟨q,hq,by unfold b2s;rw[a5N hno,if_pos rfl]⟩
  ·rintro (⟨e,he,h1,q,hq,rfl⟩|⟨q,hq,rfl⟩)
   ·exact⟨e,by simp[he],h1,q,hq,by rw[a5N hno,if_neg (hno' e he)]⟩
   ·exact⟨g.e,by simp,hb1,q,hq,by unfold b2s;rw[a5N hno,if_pos rfl]⟩)
 have hO:Of { s with es:=s.es++[g.e] } ({ r with eg:=r.eg++[g] }.setT i (r.tg[i].with (a1z r.tg[i].A g.e.a0e g.e.a0c) (a7e g.e.id g.eb r.tg[i].T g.e.a0e))):=by
  refine h.turn hp hi (by rw[List.map_append,h.es];rfl) ?_ hP.1 (fun name T hne=>?_) (fun x hx=>?_)
  ·rw[t1];exact Desk.b9s hb1
  ·have hf:a0y g.e.a0k name=false:=a3d.2 (fun e2=>hne (by rw[hname,e2]));have hof:ofB name g.e=false:=by simp[ofB,hf]
   refine⟨Desk.a7X hof,fun hT=>a4b hT (fun e h1=>?_) (fun e he _=>by rw[a5N hno,if_neg (hno' e he)])⟩;rw[List.mem_append];constructor
   ·rintro (he|he)
    ·exact he
    ·have:e=g.e:=by simpa using he
     subst this;rw[hof] at h1;cases h1
   ·exact .inl
  ·rcases List.mem_append.1 hx with hx|hx
   ·exact h.tb x hx
   ·have:x=g:=by simpa using hx
    subst this;exact⟨i,hi,hname,htb⟩
 exact⟨⟨hO.now,rfl,hO.ts,hO.es,hO.th,hO.tb⟩,hP.2⟩
theorem Of.comesW(h:Of s r){g:EG}(hno:∀ x∈r.eg,x.e.id≠g.e.id)(hk:g.e.kind=3)(hi:i<r.tg.length)(hname:r.tg[i].name=g.e.a0k)(htb:g.tb=r.tg[i].tb)(n:Int):
  Of { s with es:=s.es++[g.e],given:=n } { r with eg:=r.eg++[g],given:=n }:=by
 have hno':∀ e∈s.es,e.id≠g.e.id:=fun e he=>by obtain⟨x,hx,rfl⟩:=h.get he;exact hno x hx
 refine⟨h.now,rfl,h.ts,by show (r.eg++[g]).map _=_;rw[List.map_append,h.es];rfl,fun j hj=>?_,fun x hx=>?_⟩
 ·obtain⟨t1,t2⟩:=h.th j hj;have hof:∀ name,ofB name g.e=false:=fun name=>by simp[ofB,hk]
  refine⟨t1.trans (Desk.a7X (hof _)).symm,a4b t2 (fun e h1=>?_) (fun e he _=>by show atE (r.eg++[g]) e.id=_;rw[a5N hno,if_neg (hno' e he)])⟩;show e∈s.es++[g.e]↔_;rw[List.mem_append];constructor
  ·rintro (he|he)
   ·exact he
   ·have:e=g.e:=by simpa using he
    subst this;rw[hof] at h1;cases h1
  ·exact .inl
 ·rcases List.mem_append.1 hx with hx|hx
  ·exact h.tb x hx
  ·have:x=g:=by simpa using hx
   subst this;exact⟨i,hi,hname,htb⟩
theorem c0P{eg:List EG}(hn:(eg.map (·.e.id)).Nodup){g:EG}(hg:g∈eg)(hk:g.e.kind≠1):(eg.filter fun x=>x.e.kind != 1).Perm (g :: (a1R g.e.id 1 0 eg).filter fun x=>x.e.kind != 1):=by
 induction eg with
 |nil=>simp at hg
 |cons y eg ih =>
  rw[List.map_cons,List.nodup_cons] at hn;rcases List.mem_cons.1 hg with rfl|hg'
  ·have h0:a1R g.e.id 1 0 eg=eg:=by
    unfold a1R
    have:eg.map (fun x=>if x.e.id=g.e.id then { x with e:={ x.e with kind:=1,a0Z:=0 } } else x)=eg.map id:=by
     apply List.map_congr_left;intro x hx;rw[if_neg (fun e=>hn.1 (List.mem_map.2 ⟨x,hx,e⟩))];rfl
    rw[this,List.map_id]
   have e1:a1R g.e.id 1 0 (g :: eg)={ g with e:={ g.e with kind:=1,a0Z:=0 } } :: eg:=by
    conv=>lhs;unfold a1R;rw[List.map_cons,if_pos rfl]
    conv=>rhs;rw[<- h0]
    rfl
   rw[e1,List.filter_cons,if_pos (by simpa using hk),List.filter_cons,if_neg (by simp)]
  ·have hne:y.e.id≠g.e.id:=fun e=>hn.1 (List.mem_map.2 ⟨g,hg',e.symm⟩)
   have e1:a1R g.e.id 1 0 (y :: eg)=y :: a1R g.e.id 1 0 eg:=by
    conv=>lhs;unfold a1R;rw[List.map_cons,if_neg hne]
    rfl
   rw[e1];have ih:=ih hn.2 hg'
   by_cases h1:(y.e.kind != 1)=true
   ·rw[List.filter_cons,if_pos h1,List.filter_cons,if_pos h1];exact (ih.cons y).trans (.swap ..)
   ·rw[List.filter_cons,if_neg h1,List.filter_cons,if_neg h1];exact ih
theorem c0O{eg:List EG}(hn:(eg.map (·.e.id)).Nodup){g:EG}(hg:g∈eg)(p:EG->Bool)(hp:p g=true):(eg.filter p).Perm (g :: (a1F g.e.id eg).filter p):=by
 induction eg with
 |nil=>simp at hg
 |cons y eg ih =>
  rw[List.map_cons,List.nodup_cons] at hn;rcases List.mem_cons.1 hg with rfl|hg'
  ·have e1:a1F g.e.id (g :: eg)=eg:=by
    unfold a1F;rw[List.filter_cons,if_neg (by simp)];exact List.filter_eq_self.2 (fun x hx=>by simpa using fun e=>hn.1 (List.mem_map.2 ⟨x,hx,e⟩))
   rw[e1,List.filter_cons,if_pos hp]
  ·have hne:y.e.id≠g.e.id:=fun e=>hn.1 (List.mem_map.2 ⟨g,hg',e.symm⟩)
   have e1:a1F g.e.id (y :: eg)=y :: a1F g.e.id eg:=by unfold a1F;rw[List.filter_cons,if_pos (by simpa using hne)]
   rw[e1];have ih:=ih hn.2 hg'
   by_cases h1:p y=true
   ·rw[List.filter_cons,if_pos h1,List.filter_cons,if_pos h1];exact (ih.cons y).trans (.swap ..)
   ·rw[List.filter_cons,if_neg h1,List.filter_cons,if_neg h1];exact ih
theorem a8f{eg:List EG}(hn:(eg.map (·.e.id)).Nodup){g:EG}(hg:g∈eg)(p:EG->Bool)(hp:p g=false):(a1F g.e.id eg).filter p=eg.filter p:=by
 unfold a1F;rw[List.filter_filter];apply List.filter_congr;intro x hx
 by_cases e:x.e.id=g.e.id
 ·have:x=g:=a0W _ hn hx hg e;subst this;simp[hp]
 ·have:(x.e.id != g.e.id)=true:=by simpa using e
  simp[this]
theorem Hl.at(h:Hl r){x:Hp.Hi}(hx:x∈r.hl):∃ g∈r.eg,g.e.kind≠1/\x=a9r g:=by
 have:=h.2.mem_iff.1 hx;obtain⟨g,hg,rfl⟩:=List.mem_map.1 this;exact⟨g,(List.mem_filter.1 hg).1,by simpa using (List.mem_filter.1 hg).2,rfl⟩
theorem Hl.has(h:Hl r){g:EG}(hg:g∈r.eg)(hk:g.e.kind≠1):a9r g∈r.hl:=h.2.mem_iff.2 (List.mem_map.2 ⟨g,List.mem_filter.2 ⟨hg,by simpa using hk⟩,rfl⟩)
theorem Hl.len(h:Hl r):r.hl.length<=r.eg.length:=by
 rw[h.2.length_eq,List.length_map];exact List.length_filter_le _ _
theorem Hl.one(h:Hl r)(hn:(r.eg.map (·.e.id)).Nodup){g:EG}(hg:g∈r.eg){x:Hp.Hi}{l':List Hp.Hi}(hx:x.n=g.e.id)(hp:r.hl.Perm (x :: l')):x=a9r g:=by
 obtain⟨y,hy,_,e⟩:=h.at (x:=x) (hp.mem_iff.2 (by simp));subst e;have:y=g:=a0W _ hn hy hg hx;rw[this]
theorem Hl.book(h:Hl r)(hn:(r.eg.map (·.e.id)).Nodup){g:EG}(hg:g∈r.eg)(hk:g.e.kind≠1){x:Hp.Hi}{l':List Hp.Hi}(hx:x.n=g.e.id)(hh:Hp.a6r l')(hp:r.hl.Perm (x :: l')):Hl { r with eg:=a1R g.e.id 1 0 r.eg,hl:=l' }:=by
 have e:=h.one hn hg hx hp;subst e;refine⟨hh,List.Perm.cons_inv (a:=a9r g) ?_⟩;exact hp.symm.trans (h.2.trans ((c0P hn hg hk).map a9r))
theorem Hl.goes(h:Hl r)(hn:(r.eg.map (·.e.id)).Nodup){g:EG}(hg:g∈r.eg)(hk:g.e.kind≠1){x:Hp.Hi}{l':List Hp.Hi}(hx:x.n=g.e.id)(hh:Hp.a6r l')(hp:r.hl.Perm (x :: l')):Hl { r with eg:=a1F g.e.id r.eg,hl:=l' }:=by
 have e:=h.one hn hg hx hp;subst e;refine⟨hh,List.Perm.cons_inv (a:=a9r g) ?_⟩;exact hp.symm.trans (h.2.trans ((c0O hn hg (fun g=>g.e.kind != 1) (by simpa using hk)).map a9r))
theorem Hl.goes1(h:Hl r)(hn:(r.eg.map (·.e.id)).Nodup){g:EG}(hg:g∈r.eg)(hk:g.e.kind=1):Hl { r with eg:=a1F g.e.id r.eg }:=by
 refine⟨h.1,?_⟩;show r.hl.Perm (((a1F g.e.id r.eg).filter fun g=>g.e.kind != 1).map a9r);rw[a8f hn hg _ (by simp[hk])];exact h.2
theorem Hl.comes(h:Hl r){g:EG}(hk:g.e.kind≠1){l':List Hp.Hi}(hh:Hp.a6r l')(hp:l'.Perm (r.hl++[a9r g])):Hl { r with eg:=r.eg++[g],hl:=l' }:=by
 refine⟨hh,hp.trans ?_⟩;show (r.hl++[a9r g]).Perm (((r.eg++[g]).filter fun g=>g.e.kind != 1).map a9r);rw[List.filter_append,List.map_append];have:[g].filter (fun g=>g.e.kind != 1)=[g]:=by simp[hk]
 rw[this];exact h.2.append_right _
theorem Hl.comes1(h:Hl r){g:EG}(hk:g.e.kind=1):Hl { r with eg:=r.eg++[g] }:=by
 refine⟨h.1,?_⟩;show r.hl.Perm (((r.eg++[g]).filter fun g=>g.e.kind != 1).map a9r);rw[List.filter_append];have:[g].filter (fun g=>g.e.kind != 1)=[]:=by simp[hk]
 rw[this,List.append_nil];exact h.2
theorem Wl.goes(h:Wl r)(hn:(r.eg.map (·.e.id)).Nodup)(hb:(r.eg.map (·.eb)).Nodup){g:EG}(hg:g∈r.eg):(r.wl.filter fun b=>!(b==g.eb))=((a1F g.e.id r.eg).filter fun g=>g.e.kind==3).map (·.eb):=by
 rw[h,List.filter_map];unfold a1F;rw[List.filter_filter,List.filter_filter]
 congr 1
 apply List.filter_congr;intro x hx
 have:(x.eb==g.eb)=(x.e.id==g.e.id):=by
  by_cases e:x=g
  ·subst e;simp
  ·have h1:x.eb≠g.eb:=fun e2=>e (a0W _ hb hx hg e2)
   have h2:x.e.id≠g.e.id:=fun e2=>e (a0W _ hn hx hg e2)
   rw[beq_eq_false_iff_ne.2 h1,beq_eq_false_iff_ne.2 h2]
 simp only[Function.comp,this];rw[Bool.and_comm];rfl
theorem Wl.goes1(h:Wl r)(hn:(r.eg.map (·.e.id)).Nodup){g:EG}(hg:g∈r.eg)(hk:g.e.kind≠3):Wl { r with eg:=a1F g.e.id r.eg }:=by
 unfold Wl at *;show r.wl=((a1F g.e.id r.eg).filter fun g=>g.e.kind==3).map (·.eb);rw[a8f hn hg _ (by simpa using hk)];exact h
theorem Wl.comes(h:Wl r){g:EG}(hk:g.e.kind≠3):Wl { r with eg:=r.eg++[g] }:=by
 unfold Wl at *;show r.wl=((r.eg++[g]).filter fun g=>g.e.kind==3).map (·.eb);rw[List.filter_append];have:[g].filter (fun g=>g.e.kind==3)=[]:=by simp[hk]
 rw[this,List.append_nil];exact h
theorem Wl.comesW(h:Wl r){g:EG}(hk:g.e.kind=3):Wl { r with eg:=r.eg++[g],wl:=r.wl++[g.eb] }:=by
 unfold Wl at *;show r.wl++[g.eb]=((r.eg++[g]).filter fun g=>g.e.kind==3).map (·.eb);rw[List.filter_append,List.map_append];have:[g].filter (fun g=>g.e.kind==3)=[g]:=by simp[hk]
 rw[this,h];rfl
namespace Desk
def a5R(ts:List (ByteArray × Int))(p:List Ent × List Int)(e:Ent):List Ent × List Int :=
 if a1e ts p.1 e.a0k e.a0c e.a0e=true then (a0C e.id p.1,p.2++[e.id]) else p
def a0T(e:Ent):Bool:=e.kind==3
theorem b5x{d r:List Ent}(h:Ids (d++e :: r)):a0C e.id (d++e :: r)=d++a0Q e :: r:=by
 unfold Ids at h;rw[List.map_append,List.map_cons,List.pairwise_append,List.pairwise_cons] at h;obtain⟨_,⟨h2,_⟩,h3⟩:=h;unfold a0C;rw[List.map_append,List.map_cons,if_pos rfl]
 have e1:d.map (fun x=>if x.id=e.id then a0Q x else x)=d:=by
  rw[show d=d.map id from (List.map_id d).symm,List.map_map];apply List.map_congr_left;intro x hx;have:=h3 x.id (List.mem_map.2 ⟨x,hx,rfl⟩) e.id (by simp);simp only[Function.comp,id];rw[if_neg (by omega)]
 have e2:r.map (fun x=>if x.id=e.id then a0Q x else x)=r:=by
  rw[show r=r.map id from (List.map_id r).symm,List.map_map];apply List.map_congr_left;intro x hx;have:=h2 x.id (List.mem_map.2 ⟨x,hx,rfl⟩);simp only[Function.comp,id];rw[if_neg (by omega)]
 rw[e1,e2]
theorem a3K(ts:List (ByteArray × Int)):∀ (r d:List Ent)(acc:List Int),Ids (d++r)->(r.filter a0T).foldl (a5R ts) (d++r,acc)=((a0O ts d r).1,acc++(a0O ts d r).2)
 |[],d,acc,_=>by simp[a0O]
 |e :: r,d,acc,h=>by
  have h1:Ids ((d++[e])++r):=by simpa using h
  by_cases hk:e.kind=3
  ·have hw:a0T e=true:=by simp[a0T,hk]
   rw[List.filter_cons,if_pos hw,List.foldl_cons]
   by_cases hf:a1e ts (d++e :: r) e.a0k e.a0c e.a0e=true
   ·have hb:=b5x h
    have h2:Ids ((d++[a0Q e])++r):=by
     have:=b1e (id:=e.id) h;rw[hb] at this
     simpa using this
    have e1:a5R ts (d++e :: r,acc) e=((d++[a0Q e])++r,acc++[e.id]):=by
     unfold a5R;simp only;rw[if_pos hf,hb];simp
    rw[e1,a3K ts r _ _ h2]
    have e2:a0O ts d (e :: r)=((a0O ts (d++[a0Q e]) r).1,e.id :: (a0O ts (d++[a0Q e]) r).2):=by
     rw[a0O,if_pos ⟨hk,hf⟩]
    rw[e2];simp
   ·have e1:a5R ts (d++e :: r,acc) e=((d++[e])++r,acc):=by
     unfold a5R;simp only;rw[if_neg hf];simp
    rw[e1,a3K ts r _ _ h1]
    have e2:a0O ts d (e :: r)=a0O ts (d++[e]) r:=by
     rw[a0O,if_neg (fun h=>hf h.2)]
    rw[e2]
  ·have hw:¬ (a0T e=true):=by simp[a0T,hk]
   rw[List.filter_cons,if_neg hw]
   have e2:a0O ts d (e :: r)=a0O ts (d++[e]) r:=by
    rw[a0O,if_neg (fun h=>hk h.1)]
   rw[e2,<- a3K ts r _ _ h1];simp
theorem a5F(ts:List (ByteArray × Int))(es:List Ent)(h:Ids es):a0R ts es=(es.filter a0T).foldl (a5R ts) (es,[]):=by
 have:=a3K ts es [] [] (by simpa using h);simp only[List.nil_append] at this;rw[this];rfl
end Desk
theorem Step.keepN{S:Col->Prop}(h:Step S B col col' w w')(hc:col b=none)(hB:b<B):col' b=none:=by
 cases e:col' b with
 |none=>rfl
 |some c =>
  rcases h.new b c e with e1|e1
  ·rw[hc] at e1;cases e1
  ·omega
theorem Step.own{S:Col->Prop}{base e size:Nat}(h:Step S B col col' w w')(ho:w.ownsRow base e size v n xs)(hv:∀ b,v.ownBlock=some b->col b=none/\b<B):w'.ownsRow base e size v n xs:=by
 obtain⟨G,a1,a2⟩:=h.left;exact a1i ho a1 (fun b hb=>a2 b (.inr (hv b hb)))
theorem DK.none(h:DK w d r col)(hb:w.heap.size<=b):col b=none:=by
 cases e:col b with
 |none=>rfl
 |some c=>have:=h.lt _ _ e;omega
structure a2I(w:World)(B:Nat)(col:Nat->Option Col)(v:Value)(l:List Int):Prop where
 own:w.ownsRow B 3 1 v l.length (l.map (Value.int .i64))
 no:∀ b,v.ownBlock=some b->col b=none
theorem a2I.nil(w:World)(B:Nat)(col:Nat->Option Col):a2I w B col (.slice none 0 0) []:=⟨World.ownsRow_nil _ _ _ _,fun b hb=>by cases hb⟩
theorem a2I.step{S:Col->Prop}(h:a2I w B0 col v l)(st:Step S B col col' w w')(hB:w.heap.size<=B):a2I w' B0 col' v l:=by
 have hv:∀ b,v.ownBlock=some b->col b=none/\b<B:=fun b hb=>⟨h.no b hb,Nat.lt_of_lt_of_le (h.own.lt b hb).2 hB⟩
 exact⟨st.own h.own hv,fun b hb=>st.keepN (hv b hb).1 (hv b hb).2⟩
theorem a2I.later(h:a2I w B0 col v l)(k:Below w.heap.size w w'):a2I w' B0 col v l:=⟨a1g h.own k,h.no⟩
theorem a2I.slice(h:a2I w B col v l):∃ a cap,v=.slice a l.length cap:=by
 rcases h.own.2 with ⟨rfl,h0⟩|⟨g,cap,_,rfl,_⟩
 ·rw[h0];exact⟨_,_,rfl⟩
 ·exact⟨_,_,rfl⟩
def anyS(_:Col):Prop:=True
theorem Step.any{S:Col->Prop}{B':Nat}(h:Step S B col col' w w')(hB:B'<=B):Step anyS B' col col' w w':=h.mono (fun _ _=>trivial) hB
open Desk (Ent St Ids kept a0C a0Q a1C a2e ofB a0y a2c Mid a1H)
theorem b0x:∀ (l:List Int)(a b:Int),l.Pairwise (· < ·)->(∀ x∈l,a<=x/\x<=b)->(l.length:Int)<=max 0 (b-a+1)
 |[],a,b,_,_=>by simp;omega
 |x :: l,a,b,h,hb=>by
  rw[List.pairwise_cons] at h;have h1:=hb x (by simp);have ih:=b0x l (x+1) b h.2 (fun y hy=>⟨by have:=h.1 y hy;omega,(hb y (by simp[hy])).2⟩);simp only[List.length_cons];omega
theorem a1x(h:Mid s):s.es.length<=60:=by
 have hi:(s.es.map fun e:Ent=>e.id).Pairwise (· < ·):=h.ids
 have:=b0x _ 1 60 hi (fun x hx=>by
  obtain⟨e,he,rfl⟩:=List.mem_map.1 hx;have h1:=h.idb e he;have h2:=h.g1
  omega)
 rw[List.length_map] at this;omega
theorem b2Z{α:Type}:∀ (l m:List α),l.Nodup->(∀ x∈l,x∈m)->l.length<=m.length
 |[],m,_,_=>by simp
 |a :: l,m,h,hs=>by
  rw[List.nodup_cons] at h;obtain⟨m1,m2,rfl⟩:=List.append_of_mem (hs a (by simp))
  have:=b2Z l (m1++m2) h.2 (fun x hx=>by
   have h1:=hs x (by simp[hx]);simp only[List.mem_append,List.mem_cons] at h1 ⊢;rcases h1 with e|e|e
   ·exact .inl e
   ·subst e;exact absurd hx h.1
   ·exact .inr e)
  simp only[List.length_append,List.length_cons] at this ⊢;omega
theorem b2I(at_:Int->Nat):∀ (es:List Ent),(∀ e∈es,e.a0e.length<=40)->(es.flatMap fun e=>e.a0e.map fun s=>(⟨s.1,s.2,e.id,at_ e.id⟩:Avl.It)).length<=40*es.length
 |[],_=>by simp
 |e :: es,h=>by
  have ih:=b2I at_ es (fun x hx=>h x (by simp[hx]));have:=h e (by simp);simp only[List.flatMap_cons,List.length_append,List.length_map,List.length_cons];omega
theorem b9S{l:List Avl.It}(h:Avl.Ord l):l.Nodup:=by
 rw[List.nodup_iff_pairwise_ne];refine List.Pairwise.imp ?_ h;intro a b hab e;subst e;unfold Avl.lt at hab;omega
theorem b8o{at_:Int->Nat}{T:Avl.S}(h:a2e name es at_ T)(hl:es.length<=60)(hs:∀ e∈es,e.a0e.length<=40):Avl.size T<=9000:=by
 have h1:=b2Z _ (es.flatMap fun e=>e.a0e.map fun s=>(⟨s.1,s.2,e.id,at_ e.id⟩:Avl.It)) (b9S h.1) (fun z hz=>by
  obtain⟨e,he,_,s,hs,rfl⟩:=(h.2 z).1 hz
  exact List.mem_flatMap.2 ⟨e,he,List.mem_map.2 ⟨s,hs,rfl⟩⟩)
 have h2:=b2I at_ es hs;rw[Avl.a1k] at h1;omega
theorem b4W(h:Mid s)(ho:Of s r){now:Int}(he:a1H now e)(hi:i<r.tg.length):Fit r.tg[i] e:=by
 obtain⟨t1,t2⟩:=ho.th i hi;refine⟨he.sp,fun p=>?_,he.u1,he.u9,by have:=he.sl;omega⟩;have:=Desk.a7j r.tg[i].name p s.es h.small;have:=a1x h;rw[t1];omega
theorem a6d(h:Mid s):Desk.a9U s.es:=fun e he q hq=>((h.en e he).sp q hq).2.1
theorem b3a(h:Mid s)(ho:Of s r)(hsp:c1P e.a0e)(hu:1<=e.a0c)(hi:i<r.tg.length)(hn:r.tg[i].name=e.a0k):
  a2V (a1z r.tg[i].A e.a0e e.a0c) r.tg[i].a0c e.a0e=Desk.a1e s.ts s.es e.a0k e.a0c e.a0e:=by
 have e1:=a8G h.tn (i:=i) (by rw[<- ho.len];exact hi);rw[ho.tsAt hi] at e1;rw[(ho.th i hi).1,hn] at *;exact Desk.b8v h.small (a6d h) hsp (by omega) e1
theorem b1H(h:Mid s)(ho:Of s r)(hi:i<r.tg.length):Avl.Ord (Avl.a0w r.tg[i].T)/\Avl.size r.tg[i].T<=9000:=by
 obtain⟨_,t2⟩:=ho.th i hi;exact⟨t2.1,b8o t2 (a1x h) (fun e he=>(h.en e he).sl)⟩
theorem c2L(h:Mid s)(ho:Of s r){g:EG}(hg:g∈r.eg)(hk:g.e.kind≠3)(hi:i<r.tg.length)(hn:r.tg[i].name=g.e.a0k):∀ p,0<=a1z r.tg[i].A g.e.a0e (-g.e.a0c) p:=by
 intro p;have hb:ofB r.tg[i].name g.e=true:=by simp[ofB,hn,Desk.a2u,hk]
 rw[(ho.th i hi).1,Desk.a8Q hb h.ids (ho.mem hg)];exact (Desk.a7j _ p _ (fun e he=>h.small e (Desk.a4r.1 he).1)).1
open Desk (Ent St Ids kept a0C a0Q a1C a2e ofB a0y a2c Mid a1H a5R)
noncomputable def bkG(Gr:List Int)(g:EG):EG:=@ite _ (g.e.id∈Gr) (Classical.propDecidable _) { g with e:=a0Q g.e } g
theorem a9R{g:EG}(h:g.e.id∈Gr):bkG Gr g={ g with e:=a0Q g.e }:=if_pos h
theorem a5k{g:EG}(h:g.e.id ∉ Gr):bkG Gr g=g:=if_neg h
noncomputable def a8r(Gr:List Int)(eg:List EG):List EG:=eg.map (bkG Gr)
theorem c1v(eg:List EG):a8r [] eg=eg:=by
 unfold a8r
 conv=>rhs;rw[<- List.map_id eg]
 apply List.map_congr_left;intro g _;rw[a5k (by simp)];rfl
theorem b8O(Gr:List Int)(id:Int)(eg:List EG):a1R id 1 0 (a8r Gr eg)=a8r (Gr++[id]) eg:=by
 unfold a1R a8r;rw[List.map_map];apply List.map_congr_left;intro g _;simp only[Function.comp]
 by_cases h1:g.e.id∈Gr
 ·rw[a9R h1,a9R (List.mem_append_left _ h1)]
  split <;> rfl
 ·rw[a5k h1]
  by_cases h2:g.e.id=id
  ·rw[if_pos h2,a9R (List.mem_append_right _ (by rw[h2];exact List.mem_singleton.2 rfl))];rfl
  ·rw[if_neg h2,a5k (fun hm=>by rcases List.mem_append.1 hm with e|e;exact h1 e;exact h2 (List.mem_singleton.1 e))]
theorem c1w{eg:List EG}{g:EG}(hg:g∈eg)(h:g.e.id ∉ Gr):g∈a8r Gr eg:=by
 unfold a8r;exact List.mem_map.2 ⟨g,hg,a5k h⟩
theorem c3G(Gr:List Int)(eg:List EG)(p:Nat->Bool)(hp:∀ g∈eg,g.e.kind=3->(p g.eb=true↔g.e.id∈Gr)):(((eg.filter fun g=>g.e.kind==3).map (·.eb)).filter fun b=>!p b)=((a8r Gr eg).filter fun g=>g.e.kind==3).map (·.eb):=by
 induction eg with
 |nil=>rfl
 |cons g eg ih =>
  have ih:=ih (fun x hx=>hp x (List.mem_cons_of_mem _ hx));have e1:a8r Gr (g :: eg)=bkG Gr g :: a8r Gr eg:=rfl;rw[e1]
  by_cases hk:g.e.kind=3
  ·have hkb:(g.e.kind==3)=true:=by rw[hk];rfl
   rw[List.filter_cons,if_pos hkb,List.map_cons,List.filter_cons]
   by_cases hG:g.e.id∈Gr
   ·have h1:p g.eb=true:=(hp g List.mem_cons_self hk).2 hG;rw[if_neg (by rw[h1];simp),a9R hG,List.filter_cons,if_neg (by simp[a0Q])];exact ih
   ·have h1:p g.eb=false:=by
     cases h:p g.eb
     ·rfl
     ·exact absurd ((hp g List.mem_cons_self hk).1 h) hG
    rw[if_pos (by rw[h1];rfl),a5k hG,List.filter_cons,if_pos hkb,List.map_cons,ih]
  ·have hkb:¬ ((g.e.kind==3)=true):=by simpa using hk
   rw[List.filter_cons,if_neg hkb,List.filter_cons]
   by_cases hG:g.e.id∈Gr
   ·rw[a9R hG,if_neg (by simp[a0Q])];exact ih
   ·rw[a5k hG,if_neg hkb];exact ih
def gAt(s:St)(k:Nat):List Ent × List Int:=((s.es.filter Desk.a0T).take k).foldl (a5R s.ts) (s.es,[])
theorem b6U(s:St):gAt s 0=(s.es,[]):=rfl
theorem b6V(s:St)(hk:k<(s.es.filter Desk.a0T).length):gAt s (k+1)=a5R s.ts (gAt s k) (s.es.filter Desk.a0T)[k]:=by
 unfold gAt;rw[List.take_succ_eq_append_getElem hk,List.foldl_append];rfl
theorem c5h(s:St)(h:Ids s.es)(hk:(s.es.filter Desk.a0T).length<=k):gAt s k=Desk.a0R s.ts s.es:=by
 unfold gAt;rw[List.take_of_length_le hk,Desk.a5F s.ts s.es h]
structure GX(w wx:World)(d:Nat)(s:St)(r:Raw)(col:Nat->Option Col)(v4:Value)(k:Nat)(v:Value)(rk:Raw)(ck:Nat->Option Col):Prop where
 dk:DK wx d rk ck
 of:Of { s with es:=(gAt s k).1 } rk
 hl:Hl rk
 wl:rk.wl=r.wl
 eg:rk.eg=a8r (gAt s k).2 r.eg
 st:Step anyS w.heap.size col ck w wx
 nr:a2I wx w.heap.size ck v (gAt s k).2
 mid:Mid { s with es:=(gAt s k).1 }
 gm:∀ x∈(gAt s k).2,∃ e∈(s.es.filter Desk.a0T).take k,e.id=x
 row:wx.ownsRow 0 197 1 v4 r.wl.length (r.wl.map a5x)
 rc:∀ b,v4.ownBlock=some b->ck b=some .wa
def GI(w wx:World)(d:Nat)(s:St)(r:Raw)(col:Nat->Option Col)(v4:Value)(k:Nat)(v:Value):Prop:=∃ rk ck,GX w wx d s r col v4 k v rk ck
def a5o(w:World)(d:Nat)(s:St)(col:Nat->Option Col)(v:Value)(w':World):Prop :=
 ∃ (r':Raw) (col':Nat->Option Col),DK w' d r' col'/\Of { s with es:=(Desk.a0R s.ts s.es).1 } r'/\Wl r'/\Hl r'/\Step anyS w.heap.size col col' w w'/\a2I w' w.heap.size col' v (Desk.a0R s.ts s.es).2
theorem GX.next(h:GX w wx d s r col v4 k v rk ck)(ho:Of s r)(hw:Wl r)(hid:Ids s.es)(hk:k<r.wl.length):
  ∃ (g:EG) (hk':k<(s.es.filter Desk.a0T).length),g∈r.eg/\g∈rk.eg/\g.eb=r.wl[k]/\g.e=(s.es.filter Desk.a0T)[k]/\g.e.kind=3/\g.e.id ∉ (gAt s k).2:=by
 have e1:s.es.filter Desk.a0T=(r.eg.filter fun g=>g.e.kind==3).map (·.e):=by
  rw[<- ho.es,List.filter_map];rfl
 have hl:k<(r.eg.filter fun g=>g.e.kind==3).length:=by
  have:=hk;rw[hw,List.length_map] at this;exact this
 have hk':k<(s.es.filter Desk.a0T).length:=by rw[e1,List.length_map];exact hl
 have hge:((r.eg.filter fun g=>g.e.kind==3)[k]).e=(s.es.filter Desk.a0T)[k]:=by simp only[e1,List.getElem_map]
 have hm:=List.mem_filter.1 (zg hl)
 have hno:((r.eg.filter fun g=>g.e.kind==3)[k]).e.id ∉ (gAt s k).2:=by
  intro hx;obtain⟨e,he,e2⟩:=h.gm _ hx;obtain⟨j,hj,rfl⟩:=List.getElem_of_mem he;rw[List.length_take] at hj;rw[List.getElem_take,hge] at e2
  have hp:(s.es.filter Desk.a0T).Pairwise fun a b=>a.id<b.id:=by
   have:=Desk.a5J Desk.a0T hid;unfold Ids at this;rw[List.pairwise_map] at this;exact this
  have:=List.pairwise_iff_getElem.1 hp j k (by omega) hk' (by omega);omega
 refine⟨_,hk',hm.1,?_,?_,hge,by simpa using hm.2,hno⟩
 ·rw[h.eg];exact c1w hm.1 hno
 ·have e3:r.wl[k]?=some ((r.eg.filter fun g=>g.e.kind==3)[k]).eb:=by rw[hw,List.getElem?_map,List.getElem?_eq_getElem hl];rfl
  rw[List.getElem?_eq_getElem hk] at e3;exact (Option.some.inj e3).symm
theorem GX.no{w1:World}{c1:Nat->Option Col}(h:GX w wx d s r col v4 k v rk ck)(hk':k<(s.es.filter Desk.a0T).length)(q1:DK w1 d rk c1)(q2:Step (·=.a0k i) wx.heap.size ck c1 wx w1)(hf:Desk.a1e s.ts (gAt s k).1 (s.es.filter Desk.a0T)[k].a0k (s.es.filter Desk.a0T)[k].a0c (s.es.filter Desk.a0T)[k].a0e=false):
  GX w w1 d s r col v4 (k+1) v rk c1:=by
 have e:gAt s (k+1)=gAt s k:=by
  rw[b6V s hk'];unfold a5R;rw[if_neg (by rw[hf];simp)]
 obtain⟨G,a1,a2⟩:=q2.left;refine⟨q1,by rw[e];exact h.of,h.hl,h.wl,by rw[e];exact h.eg,h.st.trans (q2.any h.st.size),by rw[e];exact h.nr.step q2 (zq _),by rw[e];exact h.mid,fun x hx=>?_,a1i h.row a1 (fun b hb=>a2 b (.inl ⟨_,h.rc b hb,by simp⟩)),fun b hb=>q2.a9i _ _ (h.rc b hb)⟩;rw[e] at hx;obtain⟨y,hy,e2⟩:=h.gm x hx;rw[List.take_succ_eq_append_getElem hk'];exact⟨y,List.mem_append_left _ hy,e2⟩
end Go.Proofs.YtfigmlfdnickmaaGreatDoor
