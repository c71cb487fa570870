import Derived.Test.YtfigmlfdnickmaaGreatDoorL02
import Derived.Deep.RegionWith
import Derived.Deep.CutRange
set_option maxRecDepth 100000
set_option maxHeartbeats 8000000
variable{F F' Fl Fr G:List Nat}{b:Nat}{pl pr u:Option Go.Addr}{w w2:Go.World}
namespace Go.Proofs.YtfigmlfdnickmaaGreatDoor
open Go.RowKit
theorem c2e(w:World):
  Calls Tryz.prog 282 #[.pointer none] w fun e w'=>e=.returned (.int .i64 0)/\w'=w:=by
 go_enter Tryz.func282,Tryz.ntmps282
 go_wp2;go_ret;exact⟨rfl,rfl⟩
theorem b9m(b:Nat)(x:Int)(w:World)(c1:w.cell? ⟨b,5,none⟩=some (.int .i64 x)):
  Calls Tryz.prog 282 #[.pointer (some ⟨b,0,none⟩)] w fun e w'=>e=.returned (.int .i64 x)/\w'=w:=by
 go_enter Tryz.func282,Tryz.ntmps282
 go_wp2;go_ret;exact⟨rfl,rfl⟩
theorem a1o{t:Avl.S}(w:World)(h:a2p w t (.pointer u) F):
  Calls Tryz.prog 282 #[.pointer u] w fun e w'=>e=.returned (.int .i64 (Avl.ht t))/\w'=w:=by
 cases t with
 |nil=>obtain⟨h1,_⟩:=h;cases h1;exact c2e w
 |node a l r=>obtain⟨b,pl,pr,Fl,Fr,hp,n,c4,c5,_⟩:=h;cases hp;exact b9m b _ w c5
theorem a0J.drew{x:Avl.It}{l r:Avl.S}(h:a0J w b x l r pl pr Fl Fr):a0J w.drew b x l r pl pr Fl Fr:=h.same (Off.refl _ _).drew
theorem b9w{x:Avl.It}{l r:Avl.S}(h:a0J w b x l r pl pr Fl Fr):w.cell? ⟨b,6,none⟩=some (.pointer pl)/\w.cell? ⟨b,7,none⟩=some (.pointer pr)/\a0J w b x l r pl pr Fl Fr:=⟨h.c6,h.c7,h⟩
def b6L(w:World)(t:Avl.S):Option Addr->Prop
 |none=>Avl.isNil t=true
 |some a=>a.off=0/\a.spot=none/\Avl.isNil t=false/\w.cell? ⟨a.block,4,none⟩=some (.int .i64 (Avl.late t))
theorem a2p.b6L{t:Avl.S}(h:a2p w t (.pointer u) F):b6L w t u:=by
 cases t with
 |nil=>obtain⟨h1,_⟩:=h;cases h1;rfl
 |node a l r=>obtain⟨b,pl,pr,Fl,Fr,hp,n,c4,_⟩:=h;cases hp;exact⟨rfl,rfl,rfl,c4⟩
structure b4d(w wx:World)(b:Nat)(x:Avl.It)(l r:Avl.S)(pl pr:Option Addr)(Fl Fr:List Nat)(hh m:Int):Prop where
 half:a0J wx b x l r pl pr Fl Fr
 c4:wx.cell? ⟨b,4,none⟩=some (.int .i64 m)
 c5:wx.cell? ⟨b,5,none⟩=some (.int .i64 hh)
 off:Off [b] w wx
theorem b4d.set4{wx:World}{x:Avl.It}{l r:Avl.S}{hh m:Int}(h:b4d w wx b x l r pl pr Fl Fr hh m)(m':Int):b4d w (wx.setCell ⟨b,4,none⟩ (.int .i64 m')).drew b x l r pl pr Fl Fr hh m' :=
 ⟨(h.half.set4 m').drew,World.cell?_setCell_same _ _ _ h.c4,(zS _ _ _ _ (by simp)).trans h.c5,(h.off.setCell (.inl (by simp)) _ _).drew⟩
theorem a3y(w:World)(b:Nat)(x:Avl.It)(l r:Avl.S)(pl pr:Option Addr)(Fl Fr:List Nat)(h:a0J w b x l r pl pr Fl Fr)(hl:Avl.ht l<=100000)(hr:Avl.ht r<=100000):
  Calls Tryz.prog 285 #[.pointer (some ⟨b,0,none⟩)] w fun e w'=>e=.returned (.tuple #[])/\a2p w' (.node x l r) (.pointer (some ⟨b,0,none⟩)) (b :: (Fl++Fr))/\Off [b] w w':=by
 have h1:=Avl.a1a l;have h2:=Avl.a1a r
 have e3:IntKind.i64.wrap (1+if Avl.ht l<Avl.ht r then Avl.ht r else Avl.ht l)=1+max (Avl.ht l) (Avl.ht r):=by
  rw[c0q];exact a0i (by omega) (by omega)
 have E3:=a0b e3;clear e3;have f5:=h.n.fz 5;obtain⟨y5,c5⟩:=h.n.c5;have hw2:((w.setCell ⟨b,5,none⟩ (.int .i64 (1+max (Avl.ht l) (Avl.ht r)))).drew).cell? ⟨b,5,none⟩=some (.int .i64 (1+max (Avl.ht l) (Avl.ht r))):=zm _ _ _ c5;have hw1:=a0b (zA (h.set5 (1+max (Avl.ht l) (Avl.ht r))).drew (zA hw2 ((Off.set0 b w 5 (.int .i64 (1+max (Avl.ht l) (Avl.ht r)))).drew)));clear hw2
 go_enter Tryz.func285,Tryz.ntmps285
 go_wp2_with fail
 go_region_held3 (fun w'=>w'.cell? ⟨b,6,none⟩=some (.pointer pl)/\w'.cell? ⟨b,7,none⟩=some (.pointer pr)/\a0J w' b x l r pl pr Fl Fr)
  (first
   |exact b9w h.drew
   |exact b9w (a0J.drew (a0J.set5 h _)))
  (first
   |(go_at_call_of 282 (Value.pointer pl);go_split_ands;refine (a1o _ (a0J.l (by assumption))).mono ?_;rintro e w' ⟨rfl,rfl⟩)
   |(go_at_call_of 282 (Value.pointer pr);go_split_ands;refine (a1o _ (a0J.r (by assumption))).mono ?_;rintro e w' ⟨rfl,rfl⟩))
 rw[E3.out,a7z];obtain⟨hX,cX,oX⟩:=hw1.out;clear hw1;generalize (World.setCell _ ⟨b,5,none⟩ (.int .i64 (1+max (Avl.ht l) (Avl.ht r)))).drew=X at hX cX oX ⊢;clear h f5 c5;have c1:=hX.n.c1;have c6:=hX.c6;have c7:=hX.c7;obtain⟨y4,c4⟩:=hX.n.c4;have f4:=hX.n.fz 4;have hw2:(X.setCell ⟨b,4,none⟩ (.int .i64 x.t)).cell? ⟨b,4,none⟩=some (.int .i64 x.t):=zm _ _ _ c4;have hw3:(X.setCell ⟨b,4,none⟩ (.int .i64 x.t)).cell? ⟨b,5,none⟩=some (.int .i64 (1+max (Avl.ht l) (Avl.ht r))):=(zS _ _ _ _ (by simp)).trans cX;have hw1:=a0b (zA (hX.set4 x.t) (zA hw2 (zA hw3 (oX.setCell (R:=b) (.inl (by simp)) 4 (.int .i64 x.t)))));clear hw2 hw3
 go_upto_region 2 with fail
 obtain⟨hY,d4,d5,oY⟩:=hw1.out;clear hw1 c1 c6 c7 c4 f4 hX cX oX;generalize (World.setCell X ⟨b,4,none⟩ (.int .i64 x.t))=Y at hY d4 d5 oY ⊢;have d6:=hY.c6
 go_upto_if 28 with fail
 clear d6
 go_cut [28] from 24 to 43 (fun _ wx=>b4d w wx b x l r pl pr Fl Fr (1+max (Avl.ht l) (Avl.ht r)) (if Avl.isNil l then x.t else max x.t (Avl.late l)))
 case first =>
  have d6:=hY.c6;have d7:=hY.c7;have f4:=hY.n.fz 4;have la:=hY.l.b6L
  cases pl with
  |none =>
   have el:Avl.isNil l=true:=la
   go_wp2_with fail
   go_meet
   rw[if_pos el];exact⟨hY,d4,d5,oY⟩
  |some q =>
   obtain⟨bl,ol,sl⟩:=q;obtain⟨e1,e2,el,cl⟩:=la
   cases e1
   cases e2
   have cl:Y.cell? ⟨bl,4,none⟩=some (.int .i64 (Avl.late l)):=cl
   go_wp2_with fail
   go_region
   all_goals
    rw[a7z]
    go_wp2_with fail
    go_meet
    rw[if_neg (by simp[el])];exact b4d.set4 ⟨hY,d4,d5,oY⟩ _
 case rest =>
  have hZ:=hcut;clear hcut hY d4 d5 oY;have m4:=hZ.c4;have HZ:=a0b hZ;have e9:Avl.late (.node x l r)=if Avl.isNil r then (if Avl.isNil l then x.t else max x.t (Avl.late l)) else max (if Avl.isNil l then x.t else max x.t (Avl.late l)) (Avl.late r):=rfl
  have E9:=a0b e9;clear e9;generalize (if Avl.isNil l then x.t else max x.t (Avl.late l))=m at *;have d7:=hZ.half.c7;have f4:=hZ.half.n.fz 4;have ra:=hZ.half.r.b6L;clear hZ
  cases pr with
  |none =>
   have er:Avl.isNil r=true:=ra;have HK:=a0b (HZ.out.half.rep (by rw[HZ.out.c4,E9.out,if_pos er]) HZ.out.c5)
   go_wp2_with fail
   go_end0
   exact⟨rfl,HK.out,HZ.out.off⟩
  |some q =>
   obtain⟨bl,ol,sl⟩:=q;obtain⟨e1,e2,el,cl⟩:=ra
   cases e1
   cases e2
   have cl:wc.cell? ⟨bl,4,none⟩=some (.int .i64 (Avl.late r)):=cl;have HK:=a0b (HZ.out.set4 (max m (Avl.late r)));have HR:=a0b (HK.out.half.rep (by rw[HK.out.c4,E9.out,if_neg (by simp[el])]) HK.out.c5)
   go_wp2_with fail
   go_region
   all_goals
    rw[a7z]
    go_wp2_with fail
    go_end0
    exact⟨rfl,HR.out,HK.out.off⟩
def a2h(w:World)(F:List Nat)(t':Avl.S)(e:Ending)(w':World):Prop :=
 ∃ (u:Option Addr) (F':List Nat),e=.returned (.pointer u)/\a2p w' t' (.pointer u) F'/\(∀ k∈F',k∈F)/\Off F w w'
theorem b0F{a b:List Nat}(h:a.Perm b)(k:a.Nodup):b.Nodup:=h.nodup_iff.1 k
theorem b9c{x y:Avl.It}{s t r:Avl.S}(h:a0J w b x (.node y s t) r u pr Fl Fr):
  ∃ (bl:Nat) (pa pb:Option Addr) (Fa Fb:List Nat),u=some ⟨bl,0,none⟩/\Fl=bl :: (Fa++Fb)/\w.cell? ⟨bl,7,none⟩=some (.pointer pb)/\w.frozen? ⟨bl,7,none⟩=false/\b≠bl /\
   a0J ((w.setCell ⟨b,6,none⟩ (.pointer pb)).setCell ⟨bl,7,none⟩ (.pointer (some ⟨b,0,none⟩))) b x t r pb pr Fb Fr /\
   (∀ w2,a2p w2 (.node x t r) (.pointer (some ⟨b,0,none⟩)) (b :: (Fb++Fr))->Off [b] ((w.setCell ⟨b,6,none⟩ (.pointer pb)).setCell ⟨bl,7,none⟩ (.pointer (some ⟨b,0,none⟩))) w2->a0J w2 bl y s (.node x t r) pa (some ⟨b,0,none⟩) Fa (b :: (Fb++Fr))) /\
   Off (b :: (Fl++Fr)) w ((w.setCell ⟨b,6,none⟩ (.pointer pb)).setCell ⟨bl,7,none⟩ (.pointer (some ⟨b,0,none⟩))):=by
 obtain⟨bl,pa,pb,Fa,Fb,rfl,rfl,hl,_,_⟩:=h.l.half;have nd:=h.nd;have hne:b≠bl:=by rintro rfl;simp at nd
 have ndb:(b :: (Fb++Fr)).Nodup:=by
  refine List.Sublist.nodup ?_ nd;exact List.Sublist.cons_cons _ (List.Sublist.append (List.Sublist.trans (List.sublist_append_right Fa Fb) (List.sublist_cons_self _ _)) (List.Sublist.refl _))
 have o1:Off [b] w (w.setCell ⟨b,6,none⟩ (.pointer pb)):=Off.set0 ..;have o2:Off [bl] (w.setCell ⟨b,6,none⟩ (.pointer pb)) ((w.setCell ⟨b,6,none⟩ (.pointer pb)).setCell ⟨bl,7,none⟩ (.pointer (some ⟨b,0,none⟩))):=Off.set0 ..
 have hmem:∀ k,k∈Fa\/k∈Fb\/k∈Fr->k≠b/\k≠bl:=by
  intro k hk;simp only[List.nodup_cons,List.mem_append,List.mem_cons,List.cons_append,not_or] at nd;constructor
  ·rintro rfl;rcases hk with hk|hk|hk
   ·exact nd.1.2.1.1 hk
   ·exact nd.1.2.1.2 hk
   ·exact nd.1.2.2 hk
  ·rintro rfl;rcases hk with hk|hk|hk
   ·exact nd.2.1.1.1 hk
   ·exact nd.2.1.1.2 hk
   ·exact nd.2.1.2 hk
 have hh:a0J (w.setCell ⟨b,6,none⟩ (.pointer pb)) b x t r pb pr Fb Fr:=a0J.setl h.n h.c7 hl.r h.r ndb
 have hb1:a0J ((w.setCell ⟨b,6,none⟩ (.pointer pb)).setCell ⟨bl,7,none⟩ (.pointer (some ⟨b,0,none⟩))) b x t r pb pr Fb Fr :=
  hh.off o2 (by simpa using hne) (fun k hk=>by simpa using (hmem k (.inr (.inl hk))).2) (fun k hk=>by simpa using (hmem k (.inr (.inr hk))).2)
 refine⟨bl,pa,pb,Fa,Fb,rfl,rfl,hl.c7,hl.n.fz 7,hne,hb1,fun w2 k1 k2=>?_,?_⟩
 ·have n1:a2G ((w.setCell ⟨b,6,none⟩ (.pointer pb)).setCell ⟨bl,7,none⟩ (.pointer (some ⟨b,0,none⟩))) bl y:=(hl.n.off o1 (by simp;exact hne.symm)).a2w _;have c6:((w.setCell ⟨b,6,none⟩ (.pointer pb)).setCell ⟨bl,7,none⟩ (.pointer (some ⟨b,0,none⟩))).cell? ⟨bl,6,none⟩=some (.pointer pa):=(zS _ _ _ _ (by simp)).trans (o1.cell (by simp;exact hne.symm) hl.c6);have c7:((w.setCell ⟨b,6,none⟩ (.pointer pb)).setCell ⟨bl,7,none⟩ (.pointer (some ⟨b,0,none⟩))).cell? ⟨bl,7,none⟩=some (.pointer (some ⟨b,0,none⟩)):=zm _ _ _ (o1.cell (by simp;exact hne.symm) hl.c7)
  have ha:a2p ((w.setCell ⟨b,6,none⟩ (.pointer pb)).setCell ⟨bl,7,none⟩ (.pointer (some ⟨b,0,none⟩))) s (.pointer pa) Fa :=
   (hl.l.off o1 (fun k hk=>by simpa using (hmem k (.inl hk)).1)).off o2 (fun k hk=>by simpa using (hmem k (.inl hk)).2)
  have hnb:bl ∉ [b]:=by simp;exact hne.symm
  refine⟨n1.off k2 hnb,k2.cell hnb c6,k2.cell hnb c7,ha.off k2 (fun k hk=>by simpa using (hmem k (.inl hk)).1),k1,?_⟩;refine b0F ?_ nd;have p1:(b :: (bl :: (Fa++Fb)++Fr)).Perm (bl :: b :: (Fa++(Fb++Fr))):=by simpa[List.append_assoc] using List.Perm.swap bl b (Fa++(Fb++Fr))
  exact p1.trans (List.Perm.cons _ List.perm_middle.symm)
 ·exact ((Off.set0 b w 6 _).mono (by simp)).setCell (.inl (by simp)) _ _
theorem b9d{x y:Avl.It}{s t l:Avl.S}(h:a0J w b x l (.node y s t) pl u Fl Fr):
  ∃ (br:Nat) (pa pb:Option Addr) (Fa Fb:List Nat),u=some ⟨br,0,none⟩/\Fr=br :: (Fa++Fb)/\w.cell? ⟨br,6,none⟩=some (.pointer pa)/\w.frozen? ⟨br,6,none⟩=false/\b≠br /\
   a0J ((w.setCell ⟨b,7,none⟩ (.pointer pa)).setCell ⟨br,6,none⟩ (.pointer (some ⟨b,0,none⟩))) b x l s pl pa Fl Fa /\
   (∀ w2,a2p w2 (.node x l s) (.pointer (some ⟨b,0,none⟩)) (b :: (Fl++Fa))->Off [b] ((w.setCell ⟨b,7,none⟩ (.pointer pa)).setCell ⟨br,6,none⟩ (.pointer (some ⟨b,0,none⟩))) w2->a0J w2 br y (.node x l s) t (some ⟨b,0,none⟩) pb (b :: (Fl++Fa)) Fb) /\
   Off (b :: (Fl++Fr)) w ((w.setCell ⟨b,7,none⟩ (.pointer pa)).setCell ⟨br,6,none⟩ (.pointer (some ⟨b,0,none⟩))):=by
 obtain⟨br,pa,pb,Fa,Fb,rfl,rfl,hl,_,_⟩:=h.r.half;have nd:=h.nd;have hne:b≠br:=by rintro rfl;simp at nd
 have ndb:(b :: (Fl++Fa)).Nodup:=by
  refine List.Sublist.nodup ?_ nd;exact List.Sublist.cons_cons _ (List.Sublist.append (List.Sublist.refl _) (List.Sublist.trans (List.sublist_append_left Fa Fb) (List.sublist_cons_self _ _)))
 have o1:Off [b] w (w.setCell ⟨b,7,none⟩ (.pointer pa)):=Off.set0 ..;have o2:Off [br] (w.setCell ⟨b,7,none⟩ (.pointer pa)) ((w.setCell ⟨b,7,none⟩ (.pointer pa)).setCell ⟨br,6,none⟩ (.pointer (some ⟨b,0,none⟩))):=Off.set0 ..
 have hmem:∀ k,k∈Fl\/k∈Fa\/k∈Fb->k≠b/\k≠br:=by
  intro k hk;simp only[List.nodup_cons,List.nodup_append,List.mem_append,List.mem_cons,not_or] at nd;constructor
  ·rintro rfl;rcases hk with hk|hk|hk
   ·exact nd.1.1 hk
   ·exact nd.1.2.2.1 hk
   ·exact nd.1.2.2.2 hk
  ·rintro rfl;rcases hk with hk|hk|hk
   ·exact nd.2.2.2 _ hk _ (.inl rfl) rfl
   ·exact nd.2.2.1.1.1 hk
   ·exact nd.2.2.1.1.2 hk
 have hh:a0J (w.setCell ⟨b,7,none⟩ (.pointer pa)) b x l s pl pa Fl Fa:=a0J.setr h.n h.c6 h.l hl.l ndb
 have hb1:a0J ((w.setCell ⟨b,7,none⟩ (.pointer pa)).setCell ⟨br,6,none⟩ (.pointer (some ⟨b,0,none⟩))) b x l s pl pa Fl Fa :=
  hh.off o2 (by simpa using hne) (fun k hk=>by simpa using (hmem k (.inl hk)).2) (fun k hk=>by simpa using (hmem k (.inr (.inl hk))).2)
 refine⟨br,pa,pb,Fa,Fb,rfl,rfl,hl.c6,hl.n.fz 6,hne,hb1,fun w2 k1 k2=>?_,?_⟩
 ·have n1:a2G ((w.setCell ⟨b,7,none⟩ (.pointer pa)).setCell ⟨br,6,none⟩ (.pointer (some ⟨b,0,none⟩))) br y:=(hl.n.off o1 (by simp;exact hne.symm)).c5K _;have c6:((w.setCell ⟨b,7,none⟩ (.pointer pa)).setCell ⟨br,6,none⟩ (.pointer (some ⟨b,0,none⟩))).cell? ⟨br,6,none⟩=some (.pointer (some ⟨b,0,none⟩)):=zm _ _ _ (o1.cell (by simp;exact hne.symm) hl.c6);have c7:((w.setCell ⟨b,7,none⟩ (.pointer pa)).setCell ⟨br,6,none⟩ (.pointer (some ⟨b,0,none⟩))).cell? ⟨br,7,none⟩=some (.pointer pb):=(zS _ _ _ _ (by simp)).trans (o1.cell (by simp;exact hne.symm) hl.c7)
  have ha:a2p ((w.setCell ⟨b,7,none⟩ (.pointer pa)).setCell ⟨br,6,none⟩ (.pointer (some ⟨b,0,none⟩))) t (.pointer pb) Fb :=
   (hl.r.off o1 (fun k hk=>by simpa using (hmem k (.inr (.inr hk))).1)).off o2 (fun k hk=>by simpa using (hmem k (.inr (.inr hk))).2)
  have hnb:br ∉ [b]:=by simp;exact hne.symm
  refine⟨n1.off k2 hnb,k2.cell hnb c6,k2.cell hnb c7,k1,ha.off k2 (fun k hk=>by simpa using (hmem k (.inr (.inr hk))).1),?_⟩;refine b0F ?_ nd;have p1:(b :: (Fl++br :: (Fa++Fb))).Perm (b :: br :: (Fl++(Fa++Fb))):=List.Perm.cons _ List.perm_middle;refine p1.trans ((List.Perm.swap br b _).trans (List.Perm.cons _ ?_));simp[List.append_assoc]
 ·exact ((Off.set0 b w 7 _).mono (by simp)).setCell (.inl (by simp)) _ _
theorem a3q(w:World)(b:Nat)(x y:Avl.It)(s t r:Avl.S)(u pr:Option Addr)(Fl Fr:List Nat)(h:a0J w b x (.node y s t) r u pr Fl Fr)(h1:Avl.ht s<=50000)(h2:Avl.ht t<=50000)(h3:Avl.ht r<=50000):
  Calls Tryz.prog 284 #[.pointer (some ⟨b,0,none⟩)] w (a2h w (b :: (Fl++Fr)) (.node y s (.node x t r))):=by
 obtain⟨bl,pa,pb,Fa,Fb,rfl,rfl,c7,f7,hne,g1,g2,g3⟩:=b9c h;have c6:=h.c6;have f6:=h.n.fz 6;have hht:Avl.ht (.node x t r)<=100000:=by simp only[Avl.ht];omega
 have G:=a0b (zA g1 (zA g2 g3));clear g1 g2 g3 h
 go_enter Tryz.func284,Tryz.ntmps284
 go_wp2_with fail
 refine (a3y _ b x t r pb pr Fb Fr G.out.1 (by omega) (by omega)).mono ?_;rintro e w2 ⟨rfl,k1,k2⟩;have K:=a0b (zA (G.out.2.1 w2 k1 k2) (G.out.2.2.trans' k2 (fun z hz=>by simp at hz;subst hz;exact .inl (by simp))));clear k1 k2 G c7 c6 f7 f6
 go_wp2_with fail
 refine (a3y _ bl y s (.node x t r) pa (some ⟨b,0,none⟩) Fa (b :: (Fb++Fr)) K.out.1 (by omega) hht).mono ?_;rintro e w3 ⟨rfl,k1,k2⟩;have M:=a0b (zA k1 (K.out.2.trans' k2 (fun z hz=>by simp at hz;subst hz;exact .inl (by simp))));clear k1 k2 K
 go_wp2_with fail
 go_ret;exact⟨_,_,rfl,M.out.1,(by intro k hk;simp only[List.mem_cons,List.mem_append] at hk ⊢;grind),M.out.2⟩
theorem a3P(w:World)(b:Nat)(x y:Avl.It)(s t l:Avl.S)(u pl:Option Addr)(Fl Fr:List Nat)(h:a0J w b x l (.node y s t) pl u Fl Fr)(h1:Avl.ht s<=50000)(h2:Avl.ht t<=50000)(h3:Avl.ht l<=50000):
  Calls Tryz.prog 283 #[.pointer (some ⟨b,0,none⟩)] w (a2h w (b :: (Fl++Fr)) (.node y (.node x l s) t)):=by
 obtain⟨br,pa,pb,Fa,Fb,rfl,rfl,c6,f6,hne,g1,g2,g3⟩:=b9d h;have c7:=h.c7;have f7:=h.n.fz 7;have hht:Avl.ht (.node x l s)<=100000:=by simp only[Avl.ht];omega
 have G:=a0b (zA g1 (zA g2 g3));clear g1 g2 g3 h
 go_enter Tryz.func283,Tryz.ntmps283
 go_wp2_with fail
 refine (a3y _ b x l s pl pa Fl Fa G.out.1 (by omega) (by omega)).mono ?_;rintro e w2 ⟨rfl,k1,k2⟩;have K:=a0b (zA (G.out.2.1 w2 k1 k2) (G.out.2.2.trans' k2 (fun z hz=>by simp at hz;subst hz;exact .inl (by simp))));clear k1 k2 G c7 c6 f7 f6
 go_wp2_with fail
 refine (a3y _ br y (.node x l s) t (some ⟨b,0,none⟩) pb (b :: (Fl++Fa)) Fb K.out.1 hht (by omega)).mono ?_;rintro e w3 ⟨rfl,k1,k2⟩;have M:=a0b (zA k1 (K.out.2.trans' k2 (fun z hz=>by simp at hz;subst hz;exact .inl (by simp))));clear k1 k2 K
 go_wp2_with fail
 go_ret;exact⟨_,_,rfl,M.out.1,(by intro k hk;simp only[List.mem_cons,List.mem_append] at hk ⊢;grind),M.out.2⟩
theorem a0J.newl{x:Avl.It}{l r l':Avl.S}(h:a0J w b x l r pl pr Fl Fr)(k1:a2p w2 l' (.pointer u) F')(k2:∀ k∈F',k∈Fl\/w.heap.size<=k)(k3:Off Fl w w2):
  a0J (w2.setCell ⟨b,6,none⟩ (.pointer u)) b x l' r u pr F' Fr/\(∀ k∈b :: (F'++Fr),k∈b :: (Fl++Fr)\/w.heap.size<=k)/\Off (b :: (Fl++Fr)) w (w2.setCell ⟨b,6,none⟩ (.pointer u)):=by
 obtain⟨n1,n2,n3,n4,n5,n6,n7,n8⟩:=h.parts;have hlt:=h.lt;refine⟨a0J.setl (h.n.off k3 n1) (k3.cell n1 h.c7) k1 (h.r.off k3 n5) ?_,fun k hk=>?_,?_⟩
 ·refine List.nodup_cons.2 ⟨fun e=>?_,List.nodup_append.2 ⟨k1.nodup,n8,fun y hy z hz e=>?_⟩⟩
  ·rcases List.mem_append.1 e with e|e
   ·rcases k2 b e with e|e
    ·exact n1 e
    ·have:=hlt b (by simp);omega
   ·exact n2 e
  ·subst e;rcases k2 y hy with e|e
   ·exact n5 y hz e
   ·have:=hlt y (by simp[hz]);omega
 ·rcases List.mem_cons.1 hk with rfl|hk
  ·exact .inl (by simp)
  ·rcases List.mem_append.1 hk with hk|hk
   ·rcases k2 k hk with e|e
    ·exact .inl (by simp[e])
    ·exact .inr e
   ·exact .inl (by simp[hk])
 ·exact (k3.mono (by intro y hy;simp[hy])).setCell (.inl (by simp)) _ _
theorem a0J.newr{x:Avl.It}{l r r':Avl.S}(h:a0J w b x l r pl pr Fl Fr)(k1:a2p w2 r' (.pointer u) F')(k2:∀ k∈F',k∈Fr\/w.heap.size<=k)(k3:Off Fr w w2):
  a0J (w2.setCell ⟨b,7,none⟩ (.pointer u)) b x l r' pl u Fl F'/\(∀ k∈b :: (Fl++F'),k∈b :: (Fl++Fr)\/w.heap.size<=k)/\Off (b :: (Fl++Fr)) w (w2.setCell ⟨b,7,none⟩ (.pointer u)):=by
 obtain⟨n1,n2,n3,n4,n5,n6,n7,n8⟩:=h.parts;have hlt:=h.lt;refine⟨a0J.setr (h.n.off k3 n2) (k3.cell n2 h.c6) (h.l.off k3 n6) k1 ?_,fun k hk=>?_,?_⟩
 ·refine List.nodup_cons.2 ⟨fun e=>?_,List.nodup_append.2 ⟨n7,k1.nodup,fun y hy z hz e=>?_⟩⟩
  ·rcases List.mem_append.1 e with e|e
   ·exact n1 e
   ·rcases k2 b e with e|e
    ·exact n2 e
    ·have:=hlt b (by simp);omega
  ·subst e;rcases k2 y hz with e|e
   ·exact n6 y hy e
   ·have:=hlt y (by simp[hy]);omega
 ·rcases List.mem_cons.1 hk with rfl|hk
  ·exact .inl (by simp)
  ·rcases List.mem_append.1 hk with hk|hk
   ·exact .inl (by simp[hk])
   ·rcases k2 k hk with e|e
    ·exact .inl (by simp[e])
    ·exact .inr e
 ·exact (k3.mono (by intro y hy;simp[hy])).setCell (.inl (by simp)) _ _
theorem a2h.of{w1:World}{t:Avl.S}{e:Ending}{w':World}(h:a2h w1 G t e w')(k:Off F w w1)(hG:∀ k∈G,k∈F):a2h w F t e w':=by
 obtain⟨u,F',rfl,h1,h2,h3⟩:=h;exact⟨u,F',rfl,h1,fun k hk=>hG k (h2 k hk),k.trans' h3 (fun x hx=>.inl (hG x hx))⟩
theorem b3S(w:World)(b:Nat)(x:Avl.It)(l r:Avl.S)(pl pr:Option Addr)(Fl Fr:List Nat)(h:a0J w b x l r pl pr Fl Fr)(hl:Avl.ht l<=40000)(hr:Avl.ht r<=40000)(h1:¬ 1<Avl.ht l-Avl.ht r)(h2:¬ Avl.ht l-Avl.ht r < -1):
  Calls Tryz.prog 262 #[.pointer (some ⟨b,0,none⟩)] w (a2h w (b :: (Fl++Fr)) (.node x l r)):=by
 have g1:=Avl.a1a l;have g2:=Avl.a1a r;have hwr:IntKind.i64.wrap (Avl.ht l-Avl.ht r)=Avl.ht l-Avl.ht r:=a0i (by omega) (by omega)
 go_enter Tryz.func262,Tryz.ntmps262
 go_upto_region 1 with fail
 go_region_held3 (fun w'=>w'.cell? ⟨b,6,none⟩=some (.pointer pl)/\w'.cell? ⟨b,7,none⟩=some (.pointer pr)/\a0J w' b x l r pl pr Fl Fr)
  (exact b9w h.drew)
  (first
   |(go_at_call_of 282 (Value.pointer pl);go_split_ands;refine (a1o _ (a0J.l (by assumption))).mono ?_;rintro e w' ⟨rfl,rfl⟩)
   |(go_at_call_of 282 (Value.pointer pr);go_split_ands;refine (a1o _ (a0J.r (by assumption))).mono ?_;rintro e w' ⟨rfl,rfl⟩))
 have H:=a0b h.drew;have HO:=a0b ((Off.refl (b :: (Fl++Fr)) _).drew:Off _ w w.drew);clear h
 go_wp2_with fail
 refine (a3y _ b x l r pl pr Fl Fr H.out (by omega) (by omega)).mono ?_;rintro e w2 ⟨rfl,k1,k2⟩;have K:=a0b (zA k1 (HO.out.trans' k2 (fun z hz=>by simp at hz;subst hz;exact .inl (by simp))));clear k1 k2 H HO
 go_wp2_with fail
 go_ret;exact⟨_,_,rfl,K.out.1,fun _ hk=>hk,K.out.2⟩
theorem b8Q(w:World)(b:Nat)(x y:Avl.It)(s t:Avl.S)(r:Avl.S)(u pr:Option Addr)(Fl Fr:List Nat)(h:a0J w b x (.node y s t) r u pr Fl Fr)(hs:Avl.ht s<=40000)(ht:Avl.ht t<=40000)(ho:Avl.ht r<=40000)(h1:1<Avl.ht (.node y s t)-Avl.ht r):
  Calls Tryz.prog 262 #[.pointer (some ⟨b,0,none⟩)] w (a2h w (b :: (Fl++Fr)) (Avl.c4k x (.node y s t) r)):=by
 have g0:=Avl.a1a s;have g1:=Avl.a1a t;have g2:=Avl.a1a r;have g3:Avl.ht (.node y s t)=1+max (Avl.ht s) (Avl.ht t):=rfl;obtain⟨bl,ps,pt,Fs,Ft,rfl,rfl,hh,_,_⟩:=h.l.half;have RB:=a0b (fun w' (k:Off [] w w')=>zA (h.same k) (hh.same k));have TB:=a0b (fun w' (k:Off [] w w')=>a1o w' (h.same k).l);generalize Avl.ht (.node y s t)=hty at *;have hwr:IntKind.i64.wrap (hty-Avl.ht r)=hty-Avl.ht r:=a0i (by omega) (by omega);clear g3
 by_cases hc:Avl.ht s<Avl.ht t
 ·have eb:Avl.c4k x (.node y s t) r=Avl.c4N (.node x (Avl.c4O (.node y s t)) r):=by unfold Avl.c4k;rw[if_pos (by simpa[Avl.left,Avl.right] using hc)]
  rw[eb];obtain⟨z,t1,t2,rfl⟩:=Avl.a5B (t:=t) (by omega);have gz:Avl.ht (.node z t1 t2)=1+max (Avl.ht t1) (Avl.ht t2):=rfl;have g4:=Avl.a1a t1;have g5:=Avl.a1a t2;have q1:Avl.ht t1<=40000:=by omega
  have q2:Avl.ht t2<=40000:=by omega
  have TT:=a0b (fun w' (k:Off [] w w')=>a1o w' (hh.same k).r);have TS:=a0b (fun w' (k:Off [] w w')=>a1o w' (hh.same k).l);generalize Avl.ht (.node z t1 t2)=htt at *;clear gz g4 g5 h hh eb
  go_enter Tryz.func262,Tryz.ntmps262
  go_upto_region 1 with fail
  have c6:=(RB.out w.drew (Off.refl _ _).drew).1.c6;have c7:=(RB.out w.drew (Off.refl _ _).drew).1.c7
  go_region_held3 (fun w'=>w'.cell? ⟨b,6,none⟩=some (.pointer (some ⟨bl,0,none⟩))/\w'.cell? ⟨b,7,none⟩=some (.pointer pr)/\w'=w.drew)
   (exact⟨c6,c7,rfl⟩)
   (first
    |(go_at_call_of 282 (Value.pointer (some (Addr.mk bl 0 none)));go_split_ands;refine (TB.out _ (Off.refl _ _).drew).mono ?_;rintro e w' ⟨rfl,rfl⟩)
    |(go_at_call_of 282 (Value.pointer pr);go_split_ands;refine (a1o _ (RB.out _ (Off.refl _ _).drew).1.r).mono ?_;rintro e w' ⟨rfl,rfl⟩))
  go_upto_region 3 with fail
  have d6:=(RB.out w.drew.drew (Off.refl _ _).drew.drew).1.c6;have e6:=(RB.out w.drew.drew (Off.refl _ _).drew.drew).2.c6;have e7:=(RB.out w.drew.drew (Off.refl _ _).drew.drew).2.c7
  go_region_held3 (fun w'=>w'.cell? ⟨b,6,none⟩=some (.pointer (some ⟨bl,0,none⟩))/\w'.cell? ⟨bl,6,none⟩=some (.pointer ps)/\w'.cell? ⟨bl,7,none⟩=some (.pointer pt)/\w'=w.drew.drew)
   (exact⟨d6,e6,e7,rfl⟩)
   (first
    |(go_at_call_of 282 (Value.pointer ps);go_split_ands;refine (TS.out _ (Off.refl _ _).drew.drew).mono ?_;rintro e w' ⟨rfl,rfl⟩)
    |(go_at_call_of 282 (Value.pointer pt);go_split_ands;refine (TT.out _ (Off.refl _ _).drew.drew).mono ?_;rintro e w' ⟨rfl,rfl⟩))
  have HW:=RB.out w.drew.drew (Off.refl _ _).drew.drew;have OW:=a0b ((Off.refl (b :: ((bl :: (Fs++Ft))++Fr)) _).drew.drew:Off _ w w.drew.drew);have HWH:=a0b HW;clear HW RB TB TS TT
  go_wp2_with fail
  have HW:=HWH.out;clear HWH;refine (a3P _ bl y z t1 t2 s _ _ _ _ HW.2 (by omega) (by omega) (by omega)).mono ?_;rintro e w2 ⟨u2,F2,rfl,k1,k2,k3⟩;obtain⟨m1,m2,m3⟩:=HW.1.newl k1 (fun k hk=>.inl (k2 k hk)) k3;have c6:=k3.cell (o:=6) HW.1.parts.1 HW.1.c6;have f6:=(k3.frozen (o:=6) HW.1.parts.1 HW.1.n.lt).trans (HW.1.n.fz 6);have M:=a0b (zA m1 (zA k2 (OW.out.trans m3)));clear m1 m2 m3 k1 k2 k3 HW
  go_wp2_with fail
  refine (a3q _ b x z (.node y s t1) t2 r _ _ _ _ M.out.1 (by simp only[Avl.ht];omega) (by omega) (by omega)).mono ?_;rintro e w3 hk;have HK:=a0b (hk.of M.out.2.2 (by intro k hk;have:=M.out.2.1;simp only[List.mem_cons,List.mem_append] at *;grind));obtain⟨u3,F3,rfl,k1,k2,k3⟩:=hk;clear k1 k2 k3 M c6 f6
  go_wp2_with fail
  go_ret;exact HK.out
 ·have eb:Avl.c4k x (.node y s t) r=Avl.c4N (.node x (.node y s t) r):=by unfold Avl.c4k;rw[if_neg (by simpa[Avl.left,Avl.right] using hc)]
  rw[eb];have TT:=a0b (fun w' (k:Off [] w w')=>a1o w' (hh.same k).r);have TS:=a0b (fun w' (k:Off [] w w')=>a1o w' (hh.same k).l);generalize hhtt:Avl.ht t=htt at *;clear h hh eb
  go_enter Tryz.func262,Tryz.ntmps262
  go_upto_region 1 with fail
  have c6:=(RB.out w.drew (Off.refl _ _).drew).1.c6;have c7:=(RB.out w.drew (Off.refl _ _).drew).1.c7
  go_region_held3 (fun w'=>w'.cell? ⟨b,6,none⟩=some (.pointer (some ⟨bl,0,none⟩))/\w'.cell? ⟨b,7,none⟩=some (.pointer pr)/\w'=w.drew)
   (exact⟨c6,c7,rfl⟩)
   (first
    |(go_at_call_of 282 (Value.pointer (some (Addr.mk bl 0 none)));go_split_ands;refine (TB.out _ (Off.refl _ _).drew).mono ?_;rintro e w' ⟨rfl,rfl⟩)
    |(go_at_call_of 282 (Value.pointer pr);go_split_ands;refine (a1o _ (RB.out _ (Off.refl _ _).drew).1.r).mono ?_;rintro e w' ⟨rfl,rfl⟩))
  go_upto_region 3 with fail
  have d6:=(RB.out w.drew.drew (Off.refl _ _).drew.drew).1.c6;have e6:=(RB.out w.drew.drew (Off.refl _ _).drew.drew).2.c6;have e7:=(RB.out w.drew.drew (Off.refl _ _).drew.drew).2.c7
  go_region_held3 (fun w'=>w'.cell? ⟨b,6,none⟩=some (.pointer (some ⟨bl,0,none⟩))/\w'.cell? ⟨bl,6,none⟩=some (.pointer ps)/\w'.cell? ⟨bl,7,none⟩=some (.pointer pt)/\w'=w.drew.drew)
   (exact⟨d6,e6,e7,rfl⟩)
   (first
    |(go_at_call_of 282 (Value.pointer ps);go_split_ands;refine (TS.out _ (Off.refl _ _).drew.drew).mono ?_;rintro e w' ⟨rfl,rfl⟩)
    |(go_at_call_of 282 (Value.pointer pt);go_split_ands;refine (TT.out _ (Off.refl _ _).drew.drew).mono ?_;rintro e w' ⟨rfl,rfl⟩))
  have HW:=RB.out w.drew.drew (Off.refl _ _).drew.drew;have OW:=a0b ((Off.refl (b :: ((bl :: (Fs++Ft))++Fr)) _).drew.drew:Off _ w w.drew.drew);have HWH:=a0b HW;clear HW RB TB TS TT
  go_wp2_with fail
  have HW:=HWH.out;clear HWH;refine (a3q _ b x y s t r _ _ _ _ HW.1 (by omega) (by omega) (by omega)).mono ?_;rintro e w3 hk;have HK:=a0b (hk.of OW.out (fun _ hk=>hk));obtain⟨u3,F3,rfl,k1,k2,k3⟩:=hk;clear k1 k2 k3
  go_wp2_with fail
  go_ret;exact HK.out
theorem b8P(w:World)(b:Nat)(x y:Avl.It)(s t:Avl.S)(l:Avl.S)(u pl:Option Addr)(Fl Fr:List Nat)(h:a0J w b x l (.node y s t) pl u Fl Fr)(hs:Avl.ht s<=40000)(ht:Avl.ht t<=40000)(ho:Avl.ht l<=40000)(h1:Avl.ht l-Avl.ht (.node y s t) < -1):
  Calls Tryz.prog 262 #[.pointer (some ⟨b,0,none⟩)] w (a2h w (b :: (Fl++Fr)) (Avl.c4j x l (.node y s t))):=by
 have g0:=Avl.a1a s;have g1:=Avl.a1a t;have g2:=Avl.a1a l;have g3:Avl.ht (.node y s t)=1+max (Avl.ht s) (Avl.ht t):=rfl;obtain⟨bl,ps,pt,Fs,Ft,rfl,rfl,hh,_,_⟩:=h.r.half;have RB:=a0b (fun w' (k:Off [] w w')=>zA (h.same k) (hh.same k));have TB:=a0b (fun w' (k:Off [] w w')=>a1o w' (h.same k).r);generalize Avl.ht (.node y s t)=hty at *;have hwr:IntKind.i64.wrap (Avl.ht l-hty)=Avl.ht l-hty:=a0i (by omega) (by omega);have nx:¬ 1<Avl.ht l-hty:=by omega
 clear g3
 by_cases hc:Avl.ht t<Avl.ht s
 ·have eb:Avl.c4j x l (.node y s t)=Avl.c4O (.node x l (Avl.c4N (.node y s t))):=by unfold Avl.c4j;rw[if_pos (by simpa[Avl.left,Avl.right] using hc)]
  rw[eb];obtain⟨z,t1,t2,rfl⟩:=Avl.a5B (t:=s) (by omega);have gz:Avl.ht (.node z t1 t2)=1+max (Avl.ht t1) (Avl.ht t2):=rfl;have g4:=Avl.a1a t1;have g5:=Avl.a1a t2;have q1:Avl.ht t1<=40000:=by omega
  have q2:Avl.ht t2<=40000:=by omega
  have TT:=a0b (fun w' (k:Off [] w w')=>a1o w' (hh.same k).r);have TS:=a0b (fun w' (k:Off [] w w')=>a1o w' (hh.same k).l);generalize Avl.ht (.node z t1 t2)=hts at *;clear gz g4 g5 h hh eb
  go_enter Tryz.func262,Tryz.ntmps262
  go_upto_region 1 with fail
  have c6:=(RB.out w.drew (Off.refl _ _).drew).1.c6;have c7:=(RB.out w.drew (Off.refl _ _).drew).1.c7
  go_region_held3 (fun w'=>w'.cell? ⟨b,6,none⟩=some (.pointer pl)/\w'.cell? ⟨b,7,none⟩=some (.pointer (some ⟨bl,0,none⟩))/\w'=w.drew)
   (exact⟨c6,c7,rfl⟩)
   (first
    |(go_at_call_of 282 (Value.pointer (some (Addr.mk bl 0 none)));go_split_ands;refine (TB.out _ (Off.refl _ _).drew).mono ?_;rintro e w' ⟨rfl,rfl⟩)
    |(go_at_call_of 282 (Value.pointer pl);go_split_ands;refine (a1o _ (RB.out _ (Off.refl _ _).drew).1.l).mono ?_;rintro e w' ⟨rfl,rfl⟩))
  go_upto_region 7 with fail
  have d6:=(RB.out w.drew.drew (Off.refl _ _).drew.drew).1.c7;have e6:=(RB.out w.drew.drew (Off.refl _ _).drew.drew).2.c6;have e7:=(RB.out w.drew.drew (Off.refl _ _).drew.drew).2.c7
  go_region_held3 (fun w'=>w'.cell? ⟨b,7,none⟩=some (.pointer (some ⟨bl,0,none⟩))/\w'.cell? ⟨bl,6,none⟩=some (.pointer ps)/\w'.cell? ⟨bl,7,none⟩=some (.pointer pt)/\w'=w.drew.drew)
   (exact⟨d6,e6,e7,rfl⟩)
   (first
    |(go_at_call_of 282 (Value.pointer ps);go_split_ands;refine (TS.out _ (Off.refl _ _).drew.drew).mono ?_;rintro e w' ⟨rfl,rfl⟩)
    |(go_at_call_of 282 (Value.pointer pt);go_split_ands;refine (TT.out _ (Off.refl _ _).drew.drew).mono ?_;rintro e w' ⟨rfl,rfl⟩))
  have HW:=RB.out w.drew.drew (Off.refl _ _).drew.drew;have OW:=a0b ((Off.refl (b :: (Fl++(bl :: (Fs++Ft)))) _).drew.drew:Off _ w w.drew.drew);have HWH:=a0b HW;clear HW RB TB TS TT
  go_wp2_with fail
  have HW:=HWH.out;clear HWH;refine (a3q _ bl y z t1 t2 t _ _ _ _ HW.2 (by omega) (by omega) (by omega)).mono ?_;rintro e w2 ⟨u2,F2,rfl,k1,k2,k3⟩;obtain⟨m1,m2,m3⟩:=HW.1.newr k1 (fun k hk=>.inl (k2 k hk)) k3;have c6:=k3.cell (o:=7) HW.1.parts.2.1 HW.1.c7;have f6:=(k3.frozen (o:=7) HW.1.parts.2.1 HW.1.n.lt).trans (HW.1.n.fz 7);have M:=a0b (zA m1 (zA k2 (OW.out.trans m3)));clear m1 m2 m3 k1 k2 k3 HW
  go_wp2_with fail
  refine (a3P _ b x z t1 (.node y t2 t) l _ _ _ _ M.out.1 (by omega) (by simp only[Avl.ht];omega) (by omega)).mono ?_;rintro e w3 hk;have HK:=a0b (hk.of M.out.2.2 (by intro k hk;have:=M.out.2.1;simp only[List.mem_cons,List.mem_append] at *;grind));obtain⟨u3,F3,rfl,k1,k2,k3⟩:=hk;clear k1 k2 k3 M c6 f6
  go_wp2_with fail
  go_ret;exact HK.out
 ·have eb:Avl.c4j x l (.node y s t)=Avl.c4O (.node x l (.node y s t)):=by unfold Avl.c4j;rw[if_neg (by simpa[Avl.left,Avl.right] using hc)]
  rw[eb];have TT:=a0b (fun w' (k:Off [] w w')=>a1o w' (hh.same k).r);have TS:=a0b (fun w' (k:Off [] w w')=>a1o w' (hh.same k).l);clear h hh eb
  go_enter Tryz.func262,Tryz.ntmps262
  go_upto_region 1 with fail
  have c6:=(RB.out w.drew (Off.refl _ _).drew).1.c6;have c7:=(RB.out w.drew (Off.refl _ _).drew).1.c7
  go_region_held3 (fun w'=>w'.cell? ⟨b,6,none⟩=some (.pointer pl)/\w'.cell? ⟨b,7,none⟩=some (.pointer (some ⟨bl,0,none⟩))/\w'=w.drew)
   (exact⟨c6,c7,rfl⟩)
   (first
    |(go_at_call_of 282 (Value.pointer (some (Addr.mk bl 0 none)));go_split_ands;refine (TB.out _ (Off.refl _ _).drew).mono ?_;rintro e w' ⟨rfl,rfl⟩)
    |(go_at_call_of 282 (Value.pointer pl);go_split_ands;refine (a1o _ (RB.out _ (Off.refl _ _).drew).1.l).mono ?_;rintro e w' ⟨rfl,rfl⟩))
  go_upto_region 7 with fail
  have d6:=(RB.out w.drew.drew (Off.refl _ _).drew.drew).1.c7;have e6:=(RB.out w.drew.drew (Off.refl _ _).drew.drew).2.c6;have e7:=(RB.out w.drew.drew (Off.refl _ _).drew.drew).2.c7
  go_region_held3 (fun w'=>w'.cell? ⟨b,7,none⟩=some (.pointer (some ⟨bl,0,none⟩))/\w'.cell? ⟨bl,6,none⟩=some (.pointer ps)/\w'.cell? ⟨bl,7,none⟩=some (.pointer pt)/\w'=w.drew.drew)
   (exact⟨d6,e6,e7,rfl⟩)
   (first
    |(go_at_call_of 282 (Value.pointer ps);go_split_ands;refine (TS.out _ (Off.refl _ _).drew.drew).mono ?_;rintro e w' ⟨rfl,rfl⟩)
    |(go_at_call_of 282 (Value.pointer pt);go_split_ands;refine (TT.out _ (Off.refl _ _).drew.drew).mono ?_;rintro e w' ⟨rfl,rfl⟩))
  have HW:=RB.out w.drew.drew (Off.refl _ _).drew.drew;have OW:=a0b ((Off.refl (b :: (Fl++(bl :: (Fs++Ft)))) _).drew.drew:Off _ w w.drew.drew);have HWH:=a0b HW;clear HW RB TB TS TT
  go_wp2_with fail
  have HW:=HWH.out;clear HWH;refine (a3P _ b x y s t l _ _ _ _ HW.1 (by omega) (by omega) (by omega)).mono ?_;rintro e w3 hk;have HK:=a0b (hk.of OW.out (fun _ hk=>hk));obtain⟨u3,F3,rfl,k1,k2,k3⟩:=hk;clear k1 k2 k3
  go_wp2_with fail
  go_ret;exact HK.out
theorem a1W(w:World)(b:Nat)(x:Avl.It)(l r:Avl.S)(pl pr:Option Addr)(Fl Fr:List Nat)(h:a0J w b x l r pl pr Fl Fr)(hl:Avl.ht l<=30000)(hr:Avl.ht r<=30000):
  Calls Tryz.prog 262 #[.pointer (some ⟨b,0,none⟩)] w (a2h w (b :: (Fl++Fr)) (Avl.bal x l r)):=by
 have g1:=Avl.a1a l;have g2:=Avl.a1a r
 by_cases h1:1<Avl.ht l-Avl.ht r
 ·have e:Avl.bal x l r=Avl.c4k x l r:=by unfold Avl.bal;rw[if_pos h1]
  rw[e];obtain⟨y,s,t,rfl⟩:=Avl.a5B (t:=l) (by omega);have g3:Avl.ht (.node y s t)=1+max (Avl.ht s) (Avl.ht t):=rfl;exact b8Q w b x y s t r pl pr Fl Fr h (by omega) (by omega) (by omega) h1
 ·by_cases h2:Avl.ht l-Avl.ht r < -1
  ·have e:Avl.bal x l r=Avl.c4j x l r:=by unfold Avl.bal;rw[if_neg h1,if_pos h2]
   rw[e];obtain⟨y,s,t,rfl⟩:=Avl.a5B (t:=r) (by omega);have g3:Avl.ht (.node y s t)=1+max (Avl.ht s) (Avl.ht t):=rfl;exact b8P w b x y s t l pr pl Fl Fr h (by omega) (by omega) (by omega) h2
  ·have e:Avl.bal x l r=.node x l r:=by unfold Avl.bal;rw[if_neg h1,if_neg h2]
   rw[e];exact b3S w b x l r pl pr Fl Fr h (by omega) (by omega) h1 h2
def b5t(a b:Int):Int:=if a<b then -1 else if b<a then 1 else 0
theorem a9m(a:Int)(w:World):Calls Tryz.prog 279 #[.int .i64 a] w fun e w'=>e=.returned (.bool false)/\w'=w:=by
 go_enter Tryz.func279,Tryz.ntmps279
 go_wp2;go_ret;exact⟨a2C (by simp),rfl⟩
theorem a4C(a b:Int)(w:World):Calls Tryz.prog 251 #[.int .i64 a,.int .i64 b] w fun e w'=>e=.returned (.int .i64 (b5t a b))/\w'=w:=by
 by_cases h1:a<b
 ·go_enter Tryz.func251,Tryz.ntmps251
  go_wp2_with (go_at_call 279;refine (a9m _ _).mono ?_;rintro e w' ⟨rfl,rfl⟩)
  go_ret;exact⟨a1L (by simp[b5t,h1]),rfl⟩
 ·by_cases h2:b<a
  ·go_enter Tryz.func251,Tryz.ntmps251
   go_wp2_with (go_at_call 279;refine (a9m _ _).mono ?_;rintro e w' ⟨rfl,rfl⟩)
   go_ret;exact⟨a1L (by rw[b5t,if_neg (by omega),if_pos (by omega)]),rfl⟩
  ·go_enter Tryz.func251,Tryz.ntmps251
   go_wp2_with (go_at_call 279;refine (a9m _ _).mono ?_;rintro e w' ⟨rfl,rfl⟩)
   go_ret;exact⟨a1L (by rw[b5t,if_neg (by omega),if_neg (by omega)]),rfl⟩
def orI(x y:Int):Int:=if x=0 then y else x
theorem c4n(A:Nat)(x y:Int)(w:World)(c0:w.cell? ⟨A,0,none⟩=some (.int .i64 x))(c1:w.cell? ⟨A,1,none⟩=some (.int .i64 y)):
  Calls Tryz.prog 250 #[.slice (some ⟨A,0,none⟩) 2 2] w fun e w'=>e=.returned (.int .i64 (orI x y))/\w'=w:=by
 go_enter Tryz.func250,Tryz.ntmps250
 go_wp2
 go_loop [5,8] (fun _ i=>i=.int .i64 0\/(x=0/\i=.int .i64 1)\/(x=0/\y=0/\i=.int .i64 2)) (fun _ i=>2-(intOf i).toNat)
 case atStart=>exact .inl rfl
 case round =>
  rcases hrel with rfl|⟨hx,rfl⟩|⟨hx,hy,rfl⟩
  ·by_cases hx:x=0
   ·subst hx;go_wp2
    go_round
    case rel=>simp
    case measure=>simp[intOf]
   ·have hx':(x != 0)=true:=by simpa using hx
    go_wp2;go_ret;exact⟨a1L (by rw[orI,if_neg hx]),rfl⟩
  ·subst hx
   by_cases hy:y=0
   ·subst hy;go_wp2
    go_round
    case rel=>simp
    case measure=>simp[intOf]
   ·have hy':(y != 0)=true:=by simpa using hy
    go_wp2;go_ret;exact⟨a1L (by rw[orI,if_pos rfl]),rfl⟩
  ·subst hx;subst hy;go_wp2;go_ret;exact⟨a1L (by simp[orI]),rfl⟩
theorem c4D(f n:Int)(x:Avl.It):orI (b5t f x.f) (b5t n x.n)=Avl.side f n x:=by
 unfold orI b5t Avl.side
 by_cases h1:f<x.f
 ·simp[h1]
 ·by_cases h2:x.f<f
  ·simp[h1,h2]
  ·simp[h1,h2]
theorem a9L(b:Nat)(x:Avl.It)(f n:Int)(w:World)(h:a2G w b x):
  Calls Tryz.prog 263 #[.pointer (some ⟨b,0,none⟩),.int .i64 f,.int .i64 n] w fun e w'=>e=.returned (.int .i64 (Avl.side f n x))/\Below w.heap.size w w':=by
 have c0:=h.c0;have c2:=h.c2;rw[<- c4D];have HP:=a0b (fun w'=>a4C f x.f w');have HQ:=a0b (fun w'=>a4C n x.n w');generalize b5t f x.f=p at *;generalize b5t n x.n=q at *;clear h
 go_enter Tryz.func263,Tryz.ntmps263
 go_upto_region 1 with fail
 go_region_held3 (fun w'=>w'.cell? ⟨b,0,none⟩=some (.int .i64 x.f)/\w'.cell? ⟨b,2,none⟩=some (.int .i64 x.n)/\Below w.heap.size w w')
  (first
   |exact⟨c0,c2,a0q _⟩
   |(go_split_ands;refine⟨?_,?_,?_⟩ <;> assumption)
   |(go_split_ands;exact⟨a0a ((zr _ _).alloc (zq _) _) (by assumption),a0a ((zr _ _).alloc (zq _) _) (by assumption),a0j (by assumption) ((zr _ _).alloc (zq _) _) (zq _)⟩))
  (first
   |(go_at_call_of 251 (Value.int .i64 f);refine (HP.out _).mono ?_;rintro e w' ⟨rfl,rfl⟩)
   |(go_at_call_of 251 (Value.int .i64 n);refine (HQ.out _).mono ?_;rintro e w' ⟨rfl,rfl⟩)
   |(go_at_call 250;refine (c4n _ p q _ (by simp) (by simp)).mono ?_;rintro e w' ⟨rfl,rfl⟩))
 all_goals
  have HF:Hid (Below w.heap.size w (World.drew (World.alloc w (.cells #[.int .i64 p,.int .i64 q] 3)))):=((zr _ _).alloc (zq _) _).drew
  go_wp2_with fail
  go_ret;exact⟨rfl,HF.out⟩
def a7S(w:World)(F:List Nat)(t':Avl.S)(e:Ending)(w':World):Prop :=
 ∃ (u:Option Addr) (F':List Nat),e=.returned (.pointer u)/\a2p w' t' (.pointer u) F'/\(∀ k∈F',k∈F\/w.heap.size<=k)/\Off F w w'
theorem a0J.putl{x:Avl.It}{l r l':Avl.S}(h:a0J w b x l r pl pr Fl Fr)(hb:b ∉ G)(hr:∀ y∈Fr,y ∉ G)(k1:a2p w2 l' (.pointer u) F')(k2:∀ k∈F',k∈G\/w.heap.size<=k)(k3:Off G w w2):
  a0J (w2.setCell ⟨b,6,none⟩ (.pointer u)) b x l' r u pr F' Fr/\(∀ k∈b :: (F'++Fr),k∈b :: (G++Fr)\/w.heap.size<=k)/\Off (b :: (G++Fr)) w (w2.setCell ⟨b,6,none⟩ (.pointer u)):=by
 obtain⟨n1,n2,n3,n4,n5,n6,n7,n8⟩:=h.parts;have hlt:=h.lt;refine⟨a0J.setl (h.n.off k3 hb) (k3.cell hb h.c7) k1 (h.r.off k3 hr) ?_,fun k hk=>?_,?_⟩
 ·refine List.nodup_cons.2 ⟨fun e=>?_,List.nodup_append.2 ⟨k1.nodup,n8,fun y hy z hz e=>?_⟩⟩
  ·rcases List.mem_append.1 e with e|e
   ·rcases k2 b e with e|e
    ·exact hb e
    ·have:=hlt b (by simp);omega
   ·exact n2 e
  ·subst e;rcases k2 y hy with e|e
   ·exact hr y hz e
   ·have:=hlt y (by simp[hz]);omega
 ·rcases List.mem_cons.1 hk with rfl|hk
  ·exact .inl (by simp)
  ·rcases List.mem_append.1 hk with hk|hk
   ·rcases k2 k hk with e|e
    ·exact .inl (by simp[e])
    ·exact .inr e
   ·exact .inl (by simp[hk])
 ·exact (k3.mono (by intro y hy;simp[hy])).setCell (.inl (by simp)) _ _
theorem a0J.putr{x:Avl.It}{l r r':Avl.S}(h:a0J w b x l r pl pr Fl Fr)(hb:b ∉ G)(hl:∀ y∈Fl,y ∉ G)(k1:a2p w2 r' (.pointer u) F')(k2:∀ k∈F',k∈G\/w.heap.size<=k)(k3:Off G w w2):
  a0J (w2.setCell ⟨b,7,none⟩ (.pointer u)) b x l r' pl u Fl F'/\(∀ k∈b :: (Fl++F'),k∈b :: (Fl++G)\/w.heap.size<=k)/\Off (b :: (Fl++G)) w (w2.setCell ⟨b,7,none⟩ (.pointer u)):=by
 obtain⟨n1,n2,n3,n4,n5,n6,n7,n8⟩:=h.parts;have hlt:=h.lt;refine⟨a0J.setr (h.n.off k3 hb) (k3.cell hb h.c6) (h.l.off k3 hl) k1 ?_,fun k hk=>?_,?_⟩
 ·refine List.nodup_cons.2 ⟨fun e=>?_,List.nodup_append.2 ⟨n7,k1.nodup,fun y hy z hz e=>?_⟩⟩
  ·rcases List.mem_append.1 e with e|e
   ·exact n1 e
   ·rcases k2 b e with e|e
    ·exact hb e
    ·have:=hlt b (by simp);omega
  ·subst e;rcases k2 y hz with e|e
   ·exact hl y hy e
   ·have:=hlt y (by simp[hy]);omega
 ·rcases List.mem_cons.1 hk with rfl|hk
  ·exact .inl (by simp)
  ·rcases List.mem_append.1 hk with hk|hk
   ·exact .inl (by simp[hk])
   ·rcases k2 k hk with e|e
    ·exact .inl (by simp[e])
    ·exact .inr e
 ·exact (k3.mono (by intro y hy;simp[hy])).setCell (.inl (by simp)) _ _
theorem size_put(x:Avl.It):∀ t:Avl.S,Avl.size (Avl.put x t)<=Avl.size t+1
 |.nil=>by
  rw[<- Avl.a1k,Avl.put,Avl.a1G];simp[Avl.a0w,Avl.size]
 |.node y l r=>by
  have h1:=size_put x l;have h2:=size_put x r;rw[<- Avl.a1k] at h1 h2;rw[<- Avl.a1k,Avl.put];have e1:=Avl.a1k l;have e2:=Avl.a1k r
  split
  ·rw[Avl.a1G];simp only[List.length_append,List.length_cons,Avl.size];omega
  ·split
   ·rw[Avl.a1G];simp only[List.length_append,List.length_cons,Avl.size];omega
   ·rw[Avl.a1G];simp only[List.length_append,List.length_cons,Avl.size];omega
theorem c4R(x:Avl.It):∀ (t:Avl.S)(u:Option Addr)(F:List Nat)(bk:Nat)(w:World),a2p w t (.pointer u) F->a0J w bk x .nil .nil none none [] []->bk ∉ F->Avl.size t<=10000->(∀ z∈Avl.a0w t,¬ (z.f=x.f/\z.n=x.n)) ->
  Calls Tryz.prog 220 #[.pointer u,.pointer (some ⟨bk,0,none⟩)] w (a7S w (bk :: F) (Avl.put x t)):=by
 intro t
 induction t with
 |nil =>
  intro u F bk w h hb _ _ _;obtain⟨hu,rfl⟩:=h
  cases hu
  have HB:=a0b (a1W w bk x .nil .nil none none [] [] hb (by simp[Avl.ht]) (by simp[Avl.ht]));clear hb
  go_enter Tryz.func220,Tryz.ntmps220
  go_wp2_with fail
  refine HB.out.mono ?_;rintro e w2 ⟨u2,F2,rfl,k1,k2,k3⟩;have HK:Hid (a7S w [bk] (Avl.put x .nil) (.returned (.pointer u2)) w2):=⟨u2,F2,rfl,k1,fun k hk=>.inl (k2 k hk),k3⟩;clear k1 k2 k3 HB
  go_wp2_with fail
  go_ret;exact HK.out
 |node y l r ihl ihr =>
  intro u F bk w h hb hbF hsz hnot;have IHL:=a0b ihl;have IHR:=a0b ihr;clear ihl ihr;obtain⟨b,pl,pr,Fl,Fr,rfl,rfl,hh,_,_⟩:=h.half;have hyn:¬ (y.f=x.f/\y.n=x.n):=hnot y (by simp[Avl.a0w]);have sl:=size_put x l;have sr:=size_put x r;have hs:Avl.size (.node y l r)=1+Avl.size l+Avl.size r:=rfl
  have hside:Avl.side x.f x.n y<0\/0<Avl.side x.f x.n y:=by
   by_cases a:Avl.side x.f x.n y<0
   ·exact .inl a
   ·refine .inr ?_;rw[Avl.a4j] at a;rw[Avl.a6A];omega
  have a0:=hb.n.c0;have a2:=hb.n.c2;have CM:=a0b (fun w' k'=>a9L b y x.f x.n w' (hh.n.off (G:=[]) k' (by simp)));rcases hside with a|a
  ·have ep:Avl.put x (.node y l r)=Avl.bal y (Avl.put x l) r:=by rw[Avl.put,if_pos a]
   rw[ep]
   have PT:Hid (∀ w2,Below w.heap.size w w2->Calls Tryz.prog 220 #[.pointer pl,.pointer (some ⟨bk,0,none⟩)] w2 (a7S w2 (bk :: Fl) (Avl.put x l))) :=
    fun w2 kb=>IHL.out pl Fl bk w2 (hh.l.later kb) (hb.same (Off.of_below kb)) (fun e=>hbF (by simp[e])) (by omega) (fun z hz=>hnot z (by simp[Avl.a0w,hz]))
   have HH:=a0b (fun w2 (kb:Below w.heap.size w w2)=>hh.same (Off.of_below kb))
   have hne:b ∉ bk :: Fl:=by
    simp only[List.mem_cons,not_or];exact⟨fun e=>hbF (by simp[e]),hh.parts.1⟩
   have hrr:∀ y∈Fr,y ∉ bk :: Fl:=by
    intro y hy;simp only[List.mem_cons,not_or];exact⟨fun e=>hbF (by simp[<- e,hy]),hh.parts.2.2.2.2.1 y hy⟩
   have hsz':Avl.ht (Avl.put x l)<=30000:=by have:=Avl.a2D (Avl.put x l);omega
   have hsz2:Avl.ht r<=30000:=by have:=Avl.a2D r;omega
   clear hh hb IHL IHR hnot hs sl sr hyn ep
   go_enter Tryz.func220,Tryz.ntmps220
   go_upto_region 3 with fail
   go_region_held3 (fun w'=>w'.cell? ⟨bk,0,none⟩=some (.int .i64 x.f)/\w'.cell? ⟨bk,2,none⟩=some (.int .i64 x.n)/\Below w.heap.size w w')
    (first
     |exact⟨a0,a2,a0q _⟩
     |(go_split_ands;exact⟨a0a hbf (by assumption),a0a hbf (by assumption),a0j (by assumption) hbf (zq _)⟩))
    (first
     |(go_at_call 263;go_split_ands;refine (CM.out _ (Off.of_below (by assumption))).mono ?_;rintro e w2 ⟨rfl,hbf⟩))
   have hB:Below w.heap.size w w2:=by go_split_ands;assumption
   have hh2:=HH.out w2 hB;have c6:=hh2.c6;have HB:=a0b hB;have HH2:=a0b hh2;clear hB hh2 HH CM a0 a2
   go_wp2_with fail
   refine (PT.out _ HB.out).mono ?_;rintro e w3 ⟨u3,F3,rfl,k1,k2,k3⟩;obtain⟨m1,m2,m3⟩:=HH2.out.putl hne hrr k1 k2 k3;have d6:=k3.cell (o:=6) hne c6;have f6:=(k3.frozen (o:=6) hne HH2.out.n.lt).trans (HH2.out.n.fz 6);have M:=a0b (zA m1 (zA m2 m3));clear m1 m2 m3 k1 k2 k3 c6 PT HH2
   go_wp2_with fail
   refine (a1W _ b y (Avl.put x l) r _ _ _ _ M.out.1 hsz' hsz2).mono ?_;rintro e w4 ⟨u4,F4,rfl,k1,k2,k3⟩
   have HK:Hid (a7S w (bk :: (b :: (Fl++Fr))) (Avl.bal y (Avl.put x l) r) (.returned (.pointer u4)) w4):=by
    have z1:=HB.out.size;have z2:=M.out.2.1;refine⟨u4,F4,rfl,k1,fun k hk=>?_,?_⟩
    ·have:=z2 k (k2 k hk);simp only[List.mem_cons,List.mem_append] at this ⊢
     grind
    ·have o1:Off (bk :: (b :: (Fl++Fr))) w _:=(Off.of_below HB.out).trans (M.out.2.2.mono (by intro k hk;simp only[List.mem_cons,List.mem_append] at hk ⊢;grind));refine o1.trans' k3 (fun k hk=>?_);have:=z2 k hk;simp only[List.mem_cons,List.mem_append] at this ⊢
     grind
   clear k1 k2 k3 M HB d6 f6
   go_wp2_with fail
   go_ret;exact HK.out
  ·have a':¬ Avl.side x.f x.n y<0:=by omega
   have ep:Avl.put x (.node y l r)=Avl.bal y l (Avl.put x r):=by rw[Avl.put,if_neg a',if_pos a]
   rw[ep]
   have PT:Hid (∀ w2,Below w.heap.size w w2->Calls Tryz.prog 220 #[.pointer pr,.pointer (some ⟨bk,0,none⟩)] w2 (a7S w2 (bk :: Fr) (Avl.put x r))) :=
    fun w2 kb=>IHR.out pr Fr bk w2 (hh.r.later kb) (hb.same (Off.of_below kb)) (fun e=>hbF (by simp[e])) (by omega) (fun z hz=>hnot z (by simp[Avl.a0w,hz]))
   have HH:=a0b (fun w2 (kb:Below w.heap.size w w2)=>hh.same (Off.of_below kb))
   have hne:b ∉ bk :: Fr:=by
    simp only[List.mem_cons,not_or];exact⟨fun e=>hbF (by simp[e]),hh.parts.2.1⟩
   have hrr:∀ y∈Fl,y ∉ bk :: Fr:=by
    intro y hy;simp only[List.mem_cons,not_or];exact⟨fun e=>hbF (by simp[<- e,hy]),hh.parts.2.2.2.2.2.1 y hy⟩
   have hsz':Avl.ht (Avl.put x r)<=30000:=by have:=Avl.a2D (Avl.put x r);omega
   have hsz2:Avl.ht l<=30000:=by have:=Avl.a2D l;omega
   clear hh hb IHL IHR hnot hs sl sr hyn ep
   go_enter Tryz.func220,Tryz.ntmps220
   go_upto_region 3 with fail
   go_region_held3 (fun w'=>w'.cell? ⟨bk,0,none⟩=some (.int .i64 x.f)/\w'.cell? ⟨bk,2,none⟩=some (.int .i64 x.n)/\Below w.heap.size w w')
    (first
     |exact⟨a0,a2,a0q _⟩
     |(go_split_ands;exact⟨a0a hbf (by assumption),a0a hbf (by assumption),a0j (by assumption) hbf (zq _)⟩))
    (first
     |(go_at_call 263;go_split_ands;refine (CM.out _ (Off.of_below (by assumption))).mono ?_;rintro e w2 ⟨rfl,hbf⟩))
   have hB:Below w.heap.size w w2:=by go_split_ands;assumption
   have hh2:=HH.out w2 hB;have c6:=hh2.c7;have HB:=a0b hB;have HH2:=a0b hh2;clear hB hh2 HH CM a0 a2
   go_wp2_with fail
   refine (PT.out _ HB.out).mono ?_;rintro e w3 ⟨u3,F3,rfl,k1,k2,k3⟩;obtain⟨m1,m2,m3⟩:=HH2.out.putr hne hrr k1 k2 k3;have d6:=k3.cell (o:=7) hne c6;have f6:=(k3.frozen (o:=7) hne HH2.out.n.lt).trans (HH2.out.n.fz 7);have M:=a0b (zA m1 (zA m2 m3));clear m1 m2 m3 k1 k2 k3 c6 PT HH2
   go_wp2_with fail
   refine (a1W _ b y l (Avl.put x r) _ _ _ _ M.out.1 hsz2 hsz').mono ?_;rintro e w4 ⟨u4,F4,rfl,k1,k2,k3⟩
   have HK:Hid (a7S w (bk :: (b :: (Fl++Fr))) (Avl.bal y l (Avl.put x r)) (.returned (.pointer u4)) w4):=by
    have z1:=HB.out.size;have z2:=M.out.2.1;refine⟨u4,F4,rfl,k1,fun k hk=>?_,?_⟩
    ·have:=z2 k (k2 k hk);simp only[List.mem_cons,List.mem_append] at this ⊢
     grind
    ·have o1:Off (bk :: (b :: (Fl++Fr))) w _:=(Off.of_below HB.out).trans (M.out.2.2.mono (by intro k hk;simp only[List.mem_cons,List.mem_append] at hk ⊢;grind));refine o1.trans' k3 (fun k hk=>?_);have:=z2 k hk;simp only[List.mem_cons,List.mem_append] at this ⊢
     grind
   clear k1 k2 k3 M HB d6 f6
   go_wp2_with fail
   go_ret;exact HK.out
theorem b0v(x:Avl.It)(l r:Avl.S):Avl.size (Avl.a5P x l r)=Avl.size l+Avl.size r:=by
 have:=congrArg List.length (Avl.a7D x l r);simp only[List.length_cons,List.length_append,Avl.a1k] at this;omega
def c1F(w:World)(F:List Nat)(x:Avl.It)(t':Avl.S)(e:Ending)(w':World):Prop :=
 ∃ (b1:Nat) (u:Option Addr) (F':List Nat),e=.returned (.tuple #[.pointer (some ⟨b1,0,none⟩),.pointer u])/\a2G w' b1 x/\a2p w' t' (.pointer u) F'/\b1 ∉ F'/\b1∈F/\(∀ k∈F',k∈F)/\Off F w w'
theorem b1w:∀ (l:Avl.S)(x:Avl.It)(r:Avl.S)(u:Option Addr)(F:List Nat)(w:World),a2p w (.node x l r) (.pointer u) F->Avl.size l<=10000->Avl.size r<=10000 ->
  Calls Tryz.prog 307 #[.pointer u] w (c1F w F (Avl.a8O x l r) (Avl.a5P x l r)):=by
 intro l
 induction l with
 |nil =>
  intro x r u F w h _ _;obtain⟨b,pl,pr,Fl,Fr,rfl,rfl,hh,_,_⟩:=h.half;obtain⟨hp,rfl⟩:=hh.l
  cases hp
  have c6:=hh.c6;have c7:=hh.c7
  have HK:Hid (c1F w (b :: ([]++Fr)) x r (.returned (.tuple #[.pointer (some ⟨b,0,none⟩),.pointer pr])) w.drew):=by
   have ho:Off [] w w.drew:=(Off.refl _ _).drew;exact⟨b,pr,Fr,rfl,hh.n.off ho (by simp),hh.r.same ho,hh.parts.2.1,by simp,fun k hk=>by simp[hk],(Off.refl _ _).drew⟩
  clear h hh
  go_enter Tryz.func307,Tryz.ntmps307
  go_wp2_with fail
  go_region_held3 (fun w'=>w'.cell? ⟨b,7,none⟩=some (.pointer pr)) (exact c7) (fail)
  go_wp2_with fail
  go_ret2;exact HK.out
 |node y a c ihl _ =>
  intro x r u F w h hs1 hs2;have IH:=a0b ihl;clear ihl;obtain⟨b,pl,pr,Fl,Fr,rfl,rfl,hh,_,_⟩:=h.half;have es:Avl.size (.node y a c)=1+Avl.size a+Avl.size c:=rfl;have TK:=a0b (IH.out y c pl Fl w hh.l (by omega) (by omega));obtain⟨bl,pa,pb,Fa,Fb,rfl,hFl,_,_,_⟩:=hh.l.half;clear hFl;have c6:=hh.c6;have e1:=b0v y a c;have e2:=Avl.a2D (Avl.a5P y a c);have e3:=Avl.a2D r;have g1:Avl.ht (Avl.a5P y a c)<=30000:=by omega
  have g2:Avl.ht r<=30000:=by omega
  have HH:=a0b hh;have eF:Avl.a8O x (.node y a c) r=Avl.a8O y a c:=rfl;have eR:Avl.a5P x (.node y a c) r=Avl.bal x (Avl.a5P y a c) r:=rfl;rw[eF,eR];generalize Avl.a8O y a c=fx at *;generalize Avl.a5P y a c=tx at *;clear h hh es e1 e2 e3 IH hs1 hs2 eF eR
  go_enter Tryz.func307,Tryz.ntmps307
  go_wp2_with fail
  refine TK.out.mono ?_;rintro e w1 ⟨b1,u1,F1,rfl,t1,t2,t3,t4,t5,t6⟩;obtain⟨m1,m2,m3⟩:=HH.out.newl t2 (fun k hk=>.inl (t5 k hk)) t6;have d6:=t6.cell (o:=6) HH.out.parts.1 c6;have f6:=(t6.frozen (o:=6) HH.out.parts.1 HH.out.n.lt).trans (HH.out.n.fz 6);have hb1:b1≠b:=by rintro rfl;exact HH.out.parts.1 t4
  have hb2:b1 ∉ Fr:=fun e=>HH.out.parts.2.2.2.2.1 b1 e t4
  have n1:a2G (w1.setCell ⟨b,6,none⟩ (.pointer u1)) b1 fx:=t1.off (Off.set0 ..) (by simpa using hb1);have M:=a0b (zA m1 (zA m3 (zA n1 (zA t3 (zA t4 (zA t5 (zA hb1 hb2)))))));clear m1 m2 m3 n1 t1 t2 t3 t4 t5 t6 hb1 hb2 TK c6
  go_wp2_with fail
  refine (a1W _ b x tx r _ _ _ _ M.out.1 g1 g2).mono ?_;rintro e w4 ⟨u4,F4,rfl,k1,k2,k3⟩
  have HK:Hid (c1F w (b :: (Fl++Fr)) fx (Avl.bal x tx r) (.returned (.tuple #[.pointer (some ⟨b1,0,none⟩),.pointer u4])) w4):=by
   obtain⟨m1,m3,n1,t3,t4,t5,hb1,hb2⟩:=M.out;have hn:b1 ∉ b :: (F1++Fr):=by simp only[List.mem_cons,List.mem_append,not_or];exact⟨hb1,t3,hb2⟩
   refine⟨b1,u4,F4,rfl,n1.off k3 hn,k1,fun e=>hn (k2 _ e),by simp[t4],fun k hk=>?_,m3.trans' k3 (fun k hk=>?_)⟩
   ·have:=k2 k hk;simp only[List.mem_cons,List.mem_append] at this ⊢
    grind
   ·simp only[List.mem_cons,List.mem_append] at hk ⊢
    grind
  clear k1 k2 k3 M d6 f6
  go_wp2_with fail
  go_ret2;exact HK.out
theorem b8m(l:Avl.S)(u:Option Addr)(F:List Nat)(w:World)(h:a2p w l (.pointer u) F):
  Calls Tryz.prog 297 #[.pointer u,.pointer none] w (a2h w F l):=by
 go_enter Tryz.func297,Tryz.ntmps297
 go_wp2_with fail
 go_ret;exact⟨u,F,rfl,h,fun _ hk=>hk,Off.refl _ _⟩
theorem b8n(l r:Avl.S)(pl pr:Option Addr)(Fl Fr:List Nat)(w:World)(hl:a2p w l (.pointer pl) Fl)(hr:a2p w r (.pointer pr) Fr)(hd:∀ k∈Fl,k ∉ Fr)(hs1:Avl.size l<=10000)(hs2:Avl.size r<=10000):
  Calls Tryz.prog 297 #[.pointer pl,.pointer pr] w (a2h w (Fl++Fr) (Avl.a5d l r)):=by
 cases r with
 |nil =>
  obtain⟨hp,rfl⟩:=hr
  cases hp
  rw[List.append_nil];exact b8m l pl Fl w hl
 |node y a c =>
  have es:Avl.size (.node y a c)=1+Avl.size a+Avl.size c:=rfl;have TK:=a0b (b1w a y c pr Fr w hr (by omega) (by omega));obtain⟨br,pa,pb,Fa,Fb,rfl,hFl,_,_,_⟩:=hr.half;clear hFl;have e1:=b0v y a c;have e2:=Avl.a2D (Avl.a5P y a c);have e3:=Avl.a2D l;have g1:Avl.ht (Avl.a5P y a c)<=30000:=by omega
  have g2:Avl.ht l<=30000:=by omega
  have eR:Avl.a5d l (.node y a c)=Avl.bal (Avl.a8O y a c) l (Avl.a5P y a c):=rfl;rw[eR];generalize Avl.a8O y a c=fx at *;generalize Avl.a5P y a c=tx at *;have HL:=a0b hl;have HD:=a0b hd;clear hl hr hd es e1 e2 e3 eR hs1 hs2
  go_enter Tryz.func297,Tryz.ntmps297
  go_wp2_with fail
  refine TK.out.mono ?_;rintro e w1 ⟨b1,u1,F1,rfl,t1,t2,t3,t4,t5,t6⟩;have hl1:=HL.out.off t6 HD.out;have hnl:b1 ∉ Fl:=fun e=>HD.out b1 e t4
  have hdd:∀ k∈Fl,k ∉ F1:=fun k hk e=>HD.out k hk (t5 k e)
  obtain⟨y6,d6⟩:=t1.c6;obtain⟨y7,d7⟩:=t1.c7;have f6:=t1.fz 6;have f7:=t1.fz 7;have nd:(b1 :: (Fl++F1)).Nodup:=List.nodup_cons.2 ⟨by simp only[List.mem_append,not_or];exact⟨hnl,t3⟩,List.nodup_append.2 ⟨hl1.nodup,t2.nodup,fun p hp q hq e=>hdd p hp (e ▸ hq)⟩⟩
  have h1:a0J ((w1.setCell ⟨b1,6,none⟩ (.pointer pl)).setCell ⟨b1,7,none⟩ (.pointer u1)) b1 fx l tx pl u1 Fl F1 :=
   a0J.setr (t1.c5K pl) (zm _ _ _ d6) (hl1.off (Off.set0 ..) (fun k hk=>by simp;rintro rfl;exact hnl hk)) (t2.off (Off.set0 ..) (fun k hk=>by simp;rintro rfl;exact t3 hk)) nd
  have o1:Off (Fl++Fr) w ((w1.setCell ⟨b1,6,none⟩ (.pointer pl)).setCell ⟨b1,7,none⟩ (.pointer u1)) :=
   ((t6.mono (by intro k hk;simp[hk])).setCell (.inl (by simp[t4])) _ _).setCell (.inl (by simp[t4])) _ _
  have M:=a0b (zA h1 (zA o1 (zA t4 t5)));clear h1 o1 t1 t2 t3 t4 t5 t6 nd hdd hnl hl1 TK HL HD
  go_wp2_with fail
  refine (a1W _ b1 fx l tx _ _ _ _ M.out.1 g2 g1).mono ?_;rintro e w4 ⟨u4,F4,rfl,k1,k2,k3⟩
  have HK:Hid (a2h w (Fl++Fr) (Avl.bal fx l tx) (.returned (.pointer u4)) w4):=by
   obtain⟨h1,o1,t4,t5⟩:=M.out
   have hsub:∀ k∈b1 :: (Fl++F1),k∈Fl++Fr:=by
    intro k hk;simp only[List.mem_cons,List.mem_append] at hk ⊢
    grind
   exact⟨u4,F4,rfl,k1,fun k hk=>hsub k (k2 k hk),o1.trans' k3 (fun k hk=>.inl (hsub k hk))⟩
  clear k1 k2 k3 M d6 d7 f6 f7
  go_wp2_with fail
  go_ret;exact HK.out
theorem b4D(l r:Avl.S):Avl.size (Avl.a5d l r)=Avl.size l+Avl.size r:=by
 have:=congrArg List.length (Avl.a8d l r);simp only[List.length_append,Avl.a1k] at this;omega
theorem b5X(x:Avl.It)(l r:Avl.S):Avl.size (Avl.bal x l r)=1+Avl.size l+Avl.size r:=by
 have:=congrArg List.length (Avl.a1G x l r);simp only[List.length_append,List.length_cons,Avl.a1k] at this;omega
theorem a4W(f n:Int):∀ t:Avl.S,Avl.size (Avl.drop f n t)<=Avl.size t
 |.nil=>by simp[Avl.drop]
 |.node y l r=>by
  have h1:=a4W f n l;have h2:=a4W f n r;rw[Avl.drop]
  split
  ·rw[b5X];simp only[Avl.size];omega
  ·split
   ·rw[b5X];simp only[Avl.size];omega
   ·rw[b4D];simp only[Avl.size];omega
theorem c3t(f n:Int):∀ (t:Avl.S)(u:Option Addr)(F:List Nat)(w:World),a2p w t (.pointer u) F->Avl.size t<=10000 ->
  Calls Tryz.prog 280 #[.pointer u,.int .i64 f,.int .i64 n] w (a2h w F (Avl.drop f n t)):=by
 intro t
 induction t with
 |nil =>
  intro u F w h _;obtain⟨hu,rfl⟩:=h
  cases hu
  go_enter Tryz.func280,Tryz.ntmps280
  go_wp2_with fail
  go_ret;exact⟨none,[],rfl,⟨rfl,rfl⟩,fun _ hk=>hk,Off.refl _ _⟩
 |node y l r ihl ihr =>
  intro u F w h hsz;have IHL:=a0b ihl;have IHR:=a0b ihr;clear ihl ihr;obtain⟨b,pl,pr,Fl,Fr,rfl,rfl,hh,_,_⟩:=h.half;have hs:Avl.size (.node y l r)=1+Avl.size l+Avl.size r:=rfl;have sl:=a4W f n l;have sr:=a4W f n r;have CM:=a0b (fun w' k'=>a9L b y f n w' (hh.n.off (G:=[]) k' (by simp)));have HH:=a0b (fun w2 (kb:Below w.heap.size w w2)=>hh.same (Off.of_below kb))
  by_cases a:Avl.side f n y<0
  ·have ep:Avl.drop f n (.node y l r)=Avl.bal y (Avl.drop f n l) r:=by rw[Avl.drop,if_pos a]
   rw[ep];have DR:=a0b (fun w2 (kb:Below w.heap.size w w2)=>IHL.out pl Fl w2 (hh.l.later kb) (by omega));have hne:b ∉ Fl:=hh.parts.1;have hsz':Avl.ht (Avl.drop f n l)<=30000:=by have:=Avl.a2D (Avl.drop f n l);omega
   have hsz2:Avl.ht r<=30000:=by have:=Avl.a2D r;omega
   clear hh h IHL IHR hs sl sr ep
   go_enter Tryz.func280,Tryz.ntmps280
   go_wp2_with fail
   refine (CM.out _ (Off.refl _ _)).mono ?_;rintro e w2 ⟨rfl,hB⟩;have hh2:=HH.out w2 hB;have c6:=hh2.c6;have HB:=a0b hB;have HH2:=a0b hh2;clear hB hh2 HH CM
   go_wp2_with fail
   refine (DR.out _ HB.out).mono ?_;rintro e w3 ⟨u3,F3,rfl,k1,k2,k3⟩;obtain⟨m1,m2,m3⟩:=HH2.out.newl k1 (fun k hk=>.inl (k2 k hk)) k3;have d6:=k3.cell (o:=6) hne c6;have f6:=(k3.frozen (o:=6) hne HH2.out.n.lt).trans (HH2.out.n.fz 6);have M:=a0b (zA m1 (zA k2 m3));clear m1 m2 m3 k1 k2 k3 c6 DR HH2
   go_wp2_with fail
   refine (a1W _ b y (Avl.drop f n l) r _ _ _ _ M.out.1 hsz' hsz2).mono ?_;rintro e w4 ⟨u4,F4,rfl,k1,k2,k3⟩
   have HK:Hid (a2h w (b :: (Fl++Fr)) (Avl.bal y (Avl.drop f n l) r) (.returned (.pointer u4)) w4):=by
    obtain⟨m1,m2,m3⟩:=M.out
    have hsub:∀ k∈b :: (F3++Fr),k∈b :: (Fl++Fr):=by
     intro k hk;simp only[List.mem_cons,List.mem_append] at hk ⊢
     grind
    exact⟨u4,F4,rfl,k1,fun k hk=>hsub k (k2 k hk),((Off.of_below HB.out).trans m3).trans' k3 (fun k hk=>.inl (hsub k hk))⟩
   clear k1 k2 k3 M HB d6 f6
   go_wp2_with fail
   go_ret;exact HK.out
  ·by_cases a2:0<Avl.side f n y
   ·have ep:Avl.drop f n (.node y l r)=Avl.bal y l (Avl.drop f n r):=by rw[Avl.drop,if_neg a,if_pos a2]
    rw[ep];have DR:=a0b (fun w2 (kb:Below w.heap.size w w2)=>IHR.out pr Fr w2 (hh.r.later kb) (by omega));have hne:b ∉ Fr:=hh.parts.2.1;have hsz':Avl.ht (Avl.drop f n r)<=30000:=by have:=Avl.a2D (Avl.drop f n r);omega
    have hsz2:Avl.ht l<=30000:=by have:=Avl.a2D l;omega
    clear hh h IHL IHR hs sl sr ep
    go_enter Tryz.func280,Tryz.ntmps280
    go_wp2_with fail
    refine (CM.out _ (Off.refl _ _)).mono ?_;rintro e w2 ⟨rfl,hB⟩;have hh2:=HH.out w2 hB;have c6:=hh2.c7;have HB:=a0b hB;have HH2:=a0b hh2;clear hB hh2 HH CM
    go_wp2_with fail
    refine (DR.out _ HB.out).mono ?_;rintro e w3 ⟨u3,F3,rfl,k1,k2,k3⟩;obtain⟨m1,m2,m3⟩:=HH2.out.newr k1 (fun k hk=>.inl (k2 k hk)) k3;have d6:=k3.cell (o:=7) hne c6;have f6:=(k3.frozen (o:=7) hne HH2.out.n.lt).trans (HH2.out.n.fz 7);have M:=a0b (zA m1 (zA k2 m3));clear m1 m2 m3 k1 k2 k3 c6 DR HH2
    go_wp2_with fail
    refine (a1W _ b y l (Avl.drop f n r) _ _ _ _ M.out.1 hsz2 hsz').mono ?_;rintro e w4 ⟨u4,F4,rfl,k1,k2,k3⟩
    have HK:Hid (a2h w (b :: (Fl++Fr)) (Avl.bal y l (Avl.drop f n r)) (.returned (.pointer u4)) w4):=by
     obtain⟨m1,m2,m3⟩:=M.out
     have hsub:∀ k∈b :: (Fl++F3),k∈b :: (Fl++Fr):=by
      intro k hk;simp only[List.mem_cons,List.mem_append] at hk ⊢
      grind
     exact⟨u4,F4,rfl,k1,fun k hk=>hsub k (k2 k hk),((Off.of_below HB.out).trans m3).trans' k3 (fun k hk=>.inl (hsub k hk))⟩
    clear k1 k2 k3 M HB d6 f6
    go_wp2_with fail
    go_ret;exact HK.out
   ·have ep:Avl.drop f n (.node y l r)=Avl.a5d l r:=by rw[Avl.drop,if_neg a,if_neg a2]
    rw[ep];have JN:=a0b (fun w2 (kb:Below w.heap.size w w2)=>b8n l r pl pr Fl Fr w2 (hh.l.later kb) (hh.r.later kb) hh.parts.2.2.2.2.2.1 (by omega) (by omega))
    have NB:Hid (b ∉ Fl++Fr):=by
     have h1:=hh.parts.1;have h2:=hh.parts.2.1;show b ∉ Fl++Fr;simp only[List.mem_append,not_or];exact⟨h1,h2⟩
    clear hh h IHL IHR hs sl sr ep
    go_enter Tryz.func280,Tryz.ntmps280
    go_wp2_with fail
    refine (CM.out _ (Off.refl _ _)).mono ?_;rintro e w2 ⟨rfl,hB⟩;have c6:=(HH.out w2 hB).c6;have c7:=(HH.out w2 hB).c7;have HB:=a0b hB;clear hB CM HH
    go_upto_region 4 with fail
    go_region_held3 (fun w'=>w'.cell? ⟨b,6,none⟩=some (.pointer pl)/\w'.cell? ⟨b,7,none⟩=some (.pointer pr))
     (first
      |exact⟨c6,c7⟩
      |exact⟨k9,k8⟩)
     (first
      |(go_at_call 297;refine (JN.out _ (a0j HB.out (a0q _) (zq _))).mono ?_;rintro e w3 ⟨u3,F3,rfl,k1,k2,k3⟩;have k9:=k3.cell (o:=6) NB.out c6;have k8:=k3.cell (o:=7) NB.out c7))
    have HK:Hid (a2h w (b :: (Fl++Fr)) (Avl.a5d l r) (.returned (.pointer u3)) w3) :=
     ⟨u3,F3,rfl,k1,fun k hk=>by have:=k2 k hk;simp only[List.mem_cons];exact .inr this,(Off.of_below (F:=b :: (Fl++Fr)) HB.out).trans ((Off.refl (b :: (Fl++Fr)) w2).drew.trans (k3.mono (fun k hk=>by simp only[List.mem_cons];exact .inr hk)))⟩
    clear k1 k2 k3 k8 k9 HB JN c6 c7
    go_wp2_with fail
    go_ret;exact HK.out
def a3i(w:World)(tb o:Nat)(F:List Nat)(t':Avl.S)(w':World):Prop :=
 ∃ (u':Option Addr) (F':List Nat),w'.cell? ⟨tb,o,none⟩=some (.pointer u')/\a2p w' t' (.pointer u') F'/\(∀ k∈F',k∈F\/w.heap.size<=k)/\Off (tb :: F) w w'/\(∀ o',o'≠o->w'.cell? ⟨tb,o',none⟩=w.cell? ⟨tb,o',none⟩)/\∀ o',w'.frozen? ⟨tb,o',none⟩=w.frozen? ⟨tb,o',none⟩
theorem b5P{w4 w5:World}{tb o:Nat}{F5:List Nat}{t':Avl.S}{v:Value}{u5:Option Addr}(h1:Below w.heap.size w w4)(htb:tb<w.heap.size)(hn:tb ∉ F)(hG:∀ k∈G,k∈F\/w.heap.size<=k)(k1:a2p w5 t' (.pointer u5) F5)(k2:∀ k∈F5,k∈G\/w4.heap.size<=k)(k3:Off G w4 w5)(z0:w5.cell? ⟨tb,o,none⟩=some v):a3i w tb o F t' (w5.setCell ⟨tb,o,none⟩ (.pointer u5)):=by
 have hs:=h1.size;have o4:Off [] w w4:=Off.of_below h1;have hnG:tb ∉ G:=fun e=>by rcases hG tb e with h|h;exact hn h;omega
 have hn5:tb ∉ F5:=fun e=>by rcases k2 tb e with h|h;exact hnG h;omega
 have e5:w5.heap[tb]?=w.heap[tb]?:=(k3.block tb (by omega) hnG).trans (o4.block tb htb (by simp));refine⟨u5,F5,World.cell?_setCell_same _ _ _ z0,k1.off (Off.set0 ..) (fun x hx=>by simp;rintro rfl;exact hn5 hx),fun k hk=>?_,?_,fun o' ho=>?_,fun o'=>?_⟩
 ·rcases k2 k hk with h|h
  ·exact hG k h
  ·exact .inr (by omega)
 ·have o5:Off (tb :: F) w w5:=(Off.of_below (F:=tb :: F) h1).trans' k3 (fun x hx=>by rcases hG x hx with h|h;exact .inl (by simp[h]);exact .inr h);exact o5.setCell (.inl (by simp)) _ _
 ·exact (zS _ _ _ _ (by simp)).trans (zo (w:=w) e5)
 ·refine (zF ..).trans ?_;simp only[World.frozen?,e5]
theorem b9x(w:World)(f t n:Int)(v:Nat):a0J (w.alloc (.cells #[.int .i64 f,.int .i64 t,.int .i64 n,.pointer (some ⟨v,0,none⟩),.int .i64 0,.int .i64 0,.pointer none,.pointer none] 304)) w.heap.size ⟨f,t,n,v⟩ .nil .nil none none [] [] :=
 ⟨⟨by simp,by simp,by simp,by simp,⟨0,by simp⟩,⟨0,by simp⟩,⟨none,by simp⟩,⟨none,by simp⟩,fun o=>World.frozen?_alloc_new w _ _ o⟩,by simp,by simp,⟨rfl,rfl⟩,⟨rfl,rfl⟩,by simp⟩
theorem c5H(t:Avl.S)(tb o:Nat)(u:Option Addr)(F:List Nat)(x:Avl.It)(w:World)(c:w.cell? ⟨tb,o,none⟩=some (.pointer u))(fz:w.frozen? ⟨tb,o,none⟩=false)(hn:tb ∉ F)(h:a2p w t (.pointer u) F)(hs:Avl.size t<=10000)(hnot:∀ z∈Avl.a0w t,¬ (z.f=x.f/\z.n=x.n)):
  Calls Tryz.prog 159 #[.pointer (some ⟨tb,o,none⟩),.int .i64 x.f,.int .i64 x.t,.int .i64 x.n,.pointer (some ⟨x.v,0,none⟩)] w fun e w'=>e=.returned (.tuple #[])/\a3i w tb o F (Avl.put x t) w':=by
 have htb:=World.block_lt_of_cell? _ _ c;have hFlt:=h.lt;have hX:Below w.heap.size w (w.alloc (.cells #[.int .i64 x.f,.int .i64 x.t,.int .i64 x.n,.pointer (some ⟨x.v,0,none⟩),.int .i64 0,.int .i64 0,.pointer none,.pointer none] 304)):=(zr _ _).alloc (zq _) _;have PT:=a0b (c4R x t u F w.heap.size _ (h.later hX) (b9x w x.f x.t x.n x.v) (fun e=>by have:=hFlt _ e;omega) hs hnot);have HX:=a0b hX;have xc:=a0a hX c;have xf:(w.alloc (.cells #[.int .i64 x.f,.int .i64 x.t,.int .i64 x.n,.pointer (some ⟨x.v,0,none⟩),.int .i64 0,.int .i64 0,.pointer none,.pointer none] 304)).frozen? ⟨tb,o,none⟩=false:=((Off.of_below (F:=[]) hX).frozen (by simp) htb).trans fz;have hnb:tb ∉ w.heap.size :: F:=by simp only[List.mem_cons,not_or];exact⟨by simp at htb;omega,hn⟩
 have XC:=a0b (zA xc xf);have HF:Hid (∀ k∈F,k<w.heap.size):=hFlt;clear h hX hFlt xc xf hnot
 go_enter Tryz.func159,Tryz.ntmps159
 go_wp2_with fail
 refine PT.out.mono ?_;rintro e w3 ⟨u3,F3,rfl,k1,k2,k3⟩;have d:=k3.cell hnb XC.out.1;have f':=(k3.frozen (o:=o) hnb (World.block_lt_of_cell? _ _ XC.out.1)).trans XC.out.2;have HK:=a0b (b5P HX.out htb hn (fun k hk=>by rcases List.mem_cons.1 hk with rfl|hk;exact .inr (zq _);exact .inl hk) k1 k2 k3 d);clear k1 k2 k3 XC HX PT
 go_wp2_with fail
 go_end0
 exact⟨rfl,HK.out⟩
theorem c3N(t:Avl.S)(tb o:Nat)(u:Option Addr)(F:List Nat)(f n:Int)(w:World)(c:w.cell? ⟨tb,o,none⟩=some (.pointer u))(fz:w.frozen? ⟨tb,o,none⟩=false)(hn:tb ∉ F)(h:a2p w t (.pointer u) F)(hs:Avl.size t<=10000):
  Calls Tryz.prog 253 #[.pointer (some ⟨tb,o,none⟩),.int .i64 f,.int .i64 n] w fun e w'=>e=.returned (.tuple #[])/\a3i w tb o F (Avl.drop f n t) w':=by
 have htb:=World.block_lt_of_cell? _ _ c;have PT:=a0b (c3t f n t u F w h hs);clear h
 go_enter Tryz.func253,Tryz.ntmps253
 go_wp2_with fail
 refine PT.out.mono ?_;rintro e w3 ⟨u3,F3,rfl,k1,k2,k3⟩;have d:=k3.cell hn c;have f':=(k3.frozen (o:=o) hn htb).trans fz;have HK:=a0b (b5P (zr _ _) htb hn (fun k hk=>.inl hk) k1 (fun k hk=>.inl (k2 k hk)) k3 d);clear k1 k2 k3 PT
 go_wp2_with fail
 go_end0
 exact⟨rfl,HK.out⟩
end Go.Proofs.YtfigmlfdnickmaaGreatDoor
