import Derived.Test.YtfigmlfdnickmaaGreatDoorL12
set_option maxRecDepth 100000
set_option maxHeartbeats 8000000
variable{fr mi mn pc ti un:Int}{acc:List Int}{P R b:Nat}{v:Nat->Go.Value}{w w':Go.World}
namespace Go.Proofs.YtfigmlfdnickmaaGreatDoor
open Go.RowKit
theorem b7W(R A:Nat)(ws:List ByteArray)(st:Nat × Bool)(w:World)(h:RS w R A ws st.1 st.2)(he:Env w)(hR:10<=R)(hm:a1b ws.length (a0M ws [nmB] st).1 (a0M ws [nmB] st).2=true):
  Calls Tryz.prog 89 #[.pointer (some ⟨R,0,none⟩)] w fun e w' =>
   e=.returned (.agg #[.string (a2F ws st),.bool true,.int .i64 (a0v ws (a0M ws [nmB] st) a0n a1J),.int .i64 (a0v ws (a0M ws [nmB,a0n] st) a0n a1J)])/\RS w' R A ws (a0M ws [nmB,a0n,a0n] st).1 (a0M ws [nmB,a0n,a0n] st).2/\Kept R w w':=by
 have HE:=hide he;clear he
 go_enter Tryz.func89,Tryz.ntmps89
 go_wp2_with fail
 obtain⟨hRl,hAl⟩:=h.lt;obtain⟨X,hX⟩:∃ X,X=w.alloc (.cells #[.string ⟨#[]⟩,.bool false,.int .i64 0,.int .i64 0] 170):=⟨_,rfl⟩;rw[<- hX];have hb:Below w.heap.size w X:=by rw[hX];exact (zr _ _).alloc (zq _) _
 have x0:X.cell? ⟨w.heap.size,0,none⟩=some (.string ⟨#[]⟩):=by rw[hX];simp
 have x1:X.cell? ⟨w.heap.size,1,none⟩=some (.bool false):=by rw[hX];simp
 have x2:X.cell? ⟨w.heap.size,2,none⟩=some (.int .i64 0):=by rw[hX];simp
 have x3:X.cell? ⟨w.heap.size,3,none⟩=some (.int .i64 0):=by rw[hX];simp
 have xf:∀ j:Nat,X.frozen? ⟨w.heap.size,j,none⟩=false:=fun j=>by rw[hX];simp
 have xs:w.heap.size<X.heap.size:=by rw[hX];simp
 clear hX;have eX:=(a0d HE).later hb;refine (a3v R A ws st.1 st.2 X (h.of_below hb)).mono ?_;rintro e w1 ⟨rfl,h1,k1⟩;have z1:=k1.size;have e1:=eX.kept k1 hR
 go_wp2_with fail
 obtain⟨Y,hY⟩:∃ Y,Y=w1.alloc (.cells #[.string (tkS ws st.1 st.2),.bool false,.int .i64 0,.int .i64 0] 170):=⟨_,rfl⟩;rw[<- hY];have hbY:Below w1.heap.size w1 Y:=by rw[hY];exact (zr _ _).alloc (zq _) _
 have v0:Y.cell? ⟨w1.heap.size,0,none⟩=some (.string (tkS ws st.1 st.2)):=by rw[hY];simp
 have v1:Y.cell? ⟨w1.heap.size,1,none⟩=some (.bool false):=by rw[hY];simp
 have v2:Y.cell? ⟨w1.heap.size,2,none⟩=some (.int .i64 0):=by rw[hY];simp
 have v3:Y.cell? ⟨w1.heap.size,3,none⟩=some (.int .i64 0):=by rw[hY];simp
 have vf:∀ j:Nat,Y.frozen? ⟨w1.heap.size,j,none⟩=false:=fun j=>by rw[hY];simp
 have ys:w1.heap.size<Y.heap.size:=by rw[hY];simp
 clear hY;have kY:=k1.trans (Kept.of_below (R:=R) hbY);have eY:=e1.later hbY;have hY1:=h1.of_below hbY;refine (a0X R A ws _ _ Y hY1).mono ?_;rintro e w2 ⟨rfl,n,hw2⟩;have HM:Hid (a1b ws.length (tkN ws st.1 st.2 fun s=>Txt.a1j s.data.toList) (tkW ws st.1 st.2 fun s=>Txt.a1j s.data.toList)=true):=hm;rw[HM.out];have h2:=hY1.drewN n;rw[<- hw2] at h2;have k2:Kept R X w2:=by rw[hw2];exact kY.drewN n
 have e2:Env w2:=by rw[hw2];exact eY.drewN n
 have v0:w2.cell? ⟨w1.heap.size,0,none⟩=some (.string (tkS ws st.1 st.2)):=by rw[hw2];exact v0
 have v1:w2.cell? ⟨w1.heap.size,1,none⟩=some (.bool false):=by rw[hw2];exact v1
 have v2:w2.cell? ⟨w1.heap.size,2,none⟩=some (.int .i64 0):=by rw[hw2];exact v2
 have v3:w2.cell? ⟨w1.heap.size,3,none⟩=some (.int .i64 0):=by rw[hw2];exact v3
 have vf:∀ j:Nat,w2.frozen? ⟨w1.heap.size,j,none⟩=false:=fun j=>by rw[hw2];exact vf j
 have ys2:w1.heap.size<w2.heap.size:=by rw[hw2];exact ys
 have HHM:=hide hm;clear hw2 hY1 eY kY hbY ys h1 hm;have H2:=hide h2;have HE2:=hide e2;clear h2 e2 eX e1
 go_wp2_with fail
 have ne:w1.heap.size≠R:=by omega
 have hs1:=(a0d H2).other (b:=w1.heap.size) (o:=1) (v:=.bool true) ne (fun hl=>by have:=hAl hl;omega);obtain⟨Z,hZ⟩:∃ Z,Z=w2.setCell ⟨w1.heap.size,1,none⟩ (.bool true):=⟨_,rfl⟩;rw[<- hZ] at hs1 ⊢;have u0:Z.cell? ⟨w1.heap.size,0,none⟩=some (.string (tkS ws st.1 st.2)):=by rw[hZ];exact (zS _ _ _ _ (by simp)).trans v0
 have u1:Z.cell? ⟨w1.heap.size,1,none⟩=some (.bool true):=by rw[hZ];exact zm _ _ _ v1
 have u2:Z.cell? ⟨w1.heap.size,2,none⟩=some (.int .i64 0):=by rw[hZ];exact (zS _ _ _ _ (by simp)).trans v2
 have u3:Z.cell? ⟨w1.heap.size,3,none⟩=some (.int .i64 0):=by rw[hZ];exact (zS _ _ _ _ (by simp)).trans v3
 have uf:∀ j:Nat,Z.frozen? ⟨w1.heap.size,j,none⟩=false:=fun j=>by rw[hZ];exact (zF ..).trans (vf j)
 have kZ:Kept R X Z:=by rw[hZ];exact k2.setNew (by omega) _
 have zs:w1.heap.size<Z.heap.size:=by rw[hZ];simpa using ys2
 have eZ:Env Z:=(a0d HE).kept (((Kept.of_below (R:=R) hb)).trans kZ) hR;clear hZ v0 v1 v2 v3 vf;refine (a6F R A ws _ _ Z hs1 eZ hR).mono ?_;rintro e w3 ⟨rfl,h3,k3⟩;have kk:=kZ.trans k3;have y0:=kk.cell (b:=w.heap.size) (o:=0) (by omega) x0;have y1:=kk.cell (b:=w.heap.size) (o:=1) (by omega) x1;have y2:=kk.cell (b:=w.heap.size) (o:=2) (by omega) x2;have y3:=kk.cell (b:=w.heap.size) (o:=3) (by omega) x3;have yf:∀ j:Nat,w3.frozen? ⟨w.heap.size,j,none⟩=false:=fun j=>(kk.frozen (by omega) xs).trans (xf j)
 have q0:=k3.cell (b:=w1.heap.size) (o:=0) ne u0;have q1:=k3.cell (b:=w1.heap.size) (o:=1) ne u1;have q2:=k3.cell (b:=w1.heap.size) (o:=2) ne u2;have q3:=k3.cell (b:=w1.heap.size) (o:=3) ne u3;have qf:∀ j:Nat,w3.frozen? ⟨w1.heap.size,j,none⟩=false:=fun j=>(k3.frozen ne zs).trans (uf j)
 have kt:=(Kept.of_below (R:=R) hb).trans kk;have H3:=hide h3;have n12:w.heap.size≠w1.heap.size:=by omega
 have n21:w1.heap.size≠w.heap.size:=by omega
 clear h3 hs1 eZ x0 x1 x2 x3 xf u0 u1 u2 u3 uf;go_wp2;refine bodyPost_ret (v:=.agg #[.string (a2F ws st),.bool true,.int .i64 (a0v ws (a0M ws [nmB] st) a0n a1J),.int .i64 (a0v ws (a0M ws [nmB,a0n] st) a0n a1J)]) (by simp[results,Tryz.results89,go_sem,y0,y1,y2,y3];exact⟨rfl,rfl,rfl⟩) rfl ⟨rfl,?_,?_⟩
 ·exact ((((((a0d H3).other (by omega) (fun hl=>by have:=hAl hl;omega)).other (by omega) (fun hl=>by have:=hAl hl;omega)).other (by omega) (fun hl=>by have:=hAl hl;omega)).other (by omega) (fun hl=>by have:=hAl hl;omega)).other (by omega) (fun hl=>by have:=hAl hl;omega)).other (by omega) (fun hl=>by have:=hAl hl;omega)
 ·exact (((((kt.setNew (by omega) _).setNew (by omega) _).setNew (zq _) _).setNew (zq _) _).setNew (zq _) _).setNew (zq _) _
theorem b7L(f:Value)(R A:Nat)(ws:List ByteArray)(nx:Nat)(wr:Bool)(w:World)(h:RS w R A ws nx wr)(hm:a1b ws.length nx wr=false):
  Calls Tryz.prog 193 #[.pointer (some ⟨R,0,none⟩),f] w fun e w'=>e=.returned (a3E [])/\RS w' R A ws nx true/\Kept R w w':=by
 go_enter Tryz.func193,Tryz.ntmps193
 go_wp2_with fail
 obtain⟨X,hX⟩:∃ X,X=(w.alloc (.cells #[.bool false,.bool false,.bool false,.bool false,.bool false,.bool false,.bool false] 160)).alloc (.cells #[.bool false,.bool false,.bool false,.bool false,.bool false,.bool false,.bool false] 160):=⟨_,rfl⟩;rw[<- hX];obtain⟨hRl,hAl⟩:=h.lt;have hB:Below w.heap.size w X:=by rw[hX];exact ((zr _ _).alloc (zq _) _).alloc (by simp) _
 have hZ:w.heap.size+2=X.heap.size:=by rw[hX];simp
 have dR:DS X w.heap.size []:=by
  rw[hX];refine⟨?_,?_,?_,?_,?_,?_,?_,fun j=>?_⟩ <;> simp[isd]
 have dD:DS X (w.heap.size+1) []:=by
  rw[hX];refine⟨?_,?_,?_,?_,?_,?_,?_,fun j=>?_⟩ <;> simp[isd]
 clear hX;refine (a0X R A ws nx wr X (h.of_below hB)).mono ?_;rintro e w1 ⟨rfl,n,hw⟩;have h1:RS w1 R A ws nx wr:=by rw[hw];exact (h.of_below hB).drewN n
 have k1:Kept R w w1:=by rw[hw];exact (Kept.of_below hB).drewN n
 have d1R:DS w1 w.heap.size []:=by rw[hw];exact⟨dR.c0,dR.c1,dR.c2,dR.c3,dR.c4,dR.c5,dR.c6,dR.f⟩
 have d1D:DS w1 (w.heap.size+1) []:=by rw[hw];exact⟨dD.c0,dD.c1,dD.c2,dD.c3,dD.c4,dD.c5,dD.c6,dD.f⟩
 have z1:X.heap.size=w1.heap.size:=by rw[hw];rfl
 have c2:=h1.c2;have f2:=h1.f2;clear hw dR dD;have q0:=d1D.c0;have q1:=d1D.c1;have q2:=d1D.c2;have q3:=d1D.c3;have q4:=d1D.c4;have q5:=d1D.c5;have q6:=d1D.c6;have r0:=d1R.c0;have r1:=d1R.c1;have r2:=d1R.c2;have r3:=d1R.c3;have r4:=d1R.c4;have r5:=d1R.c5;have r6:=d1R.c6;have fR:=d1R.f;have fD:=d1D.f;have n1:R≠w.heap.size:=by omega
 have n2:R≠w.heap.size+1:=by omega
 go_wp2;refine bodyPost_ret (v:=a3E []) (by simp[results,Tryz.results193,go_sem,a3E,isd,r0,r1,r2,r3,r4,r5,r6]) rfl ⟨rfl,?_,?_⟩
 ·exact (((((((h1.bad.other (by omega) (fun hl=>by have:=hAl hl;omega)).other (by omega) (fun hl=>by have:=hAl hl;omega)).other (by omega) (fun hl=>by have:=hAl hl;omega)).other (by omega) (fun hl=>by have:=hAl hl;omega)).other (by omega) (fun hl=>by have:=hAl hl;omega)).other (by omega) (fun hl=>by have:=hAl hl;omega)).other (by omega) (fun hl=>by have:=hAl hl;omega))
 ·exact (((((((k1.setCell _ _).setNew (zq _) _).setNew (zq _) _).setNew (zq _) _).setNew (zq _) _).setNew (zq _) _).setNew (zq _) _).setNew (zq _) _
theorem c3r{acc0:List Int}(acc:List Int)(h:DS w b acc0):DS (((((((w.setCell ⟨b,0,none⟩ (.bool (isd acc 0))).setCell ⟨b,1,none⟩ (.bool (isd acc 1))).setCell ⟨b,2,none⟩ (.bool (isd acc 2))).setCell ⟨b,3,none⟩ (.bool (isd acc 3))).setCell ⟨b,4,none⟩ (.bool (isd acc 4))).setCell ⟨b,5,none⟩ (.bool (isd acc 5))).setCell ⟨b,6,none⟩ (.bool (isd acc 6))) b acc:=by
 have s:∀ (x:World) (o:Nat) (v u:Value),x.cell? ⟨b,o,none⟩=some u->(x.setCell ⟨b,o,none⟩ v).cell? ⟨b,o,none⟩=some v:=fun x o v u hx=>zm x ⟨b,o,none⟩ v hx
 have o:∀ (x:World) (i j:Nat) (v:Value),i≠j->(x.setCell ⟨b,i,none⟩ v).cell? ⟨b,j,none⟩=x.cell? ⟨b,j,none⟩:=fun x i j v _=>zS _ _ _ _ (by simp)
 refine⟨?_,?_,?_,?_,?_,?_,?_,fun j=>?_⟩
 ·rw[o _ 6 0 _ (by decide),o _ 5 0 _ (by decide),o _ 4 0 _ (by decide),o _ 3 0 _ (by decide),o _ 2 0 _ (by decide),o _ 1 0 _ (by decide)];refine s _ _ _ (.bool (isd acc0 0)) ?_;exact h.c0
 ·rw[o _ 6 1 _ (by decide),o _ 5 1 _ (by decide),o _ 4 1 _ (by decide),o _ 3 1 _ (by decide),o _ 2 1 _ (by decide)];refine s _ _ _ (.bool (isd acc0 1)) ?_;rw[o _ 0 1 _ (by decide)];exact h.c1
 ·rw[o _ 6 2 _ (by decide),o _ 5 2 _ (by decide),o _ 4 2 _ (by decide),o _ 3 2 _ (by decide)];refine s _ _ _ (.bool (isd acc0 2)) ?_;rw[o _ 1 2 _ (by decide),o _ 0 2 _ (by decide)];exact h.c2
 ·rw[o _ 6 3 _ (by decide),o _ 5 3 _ (by decide),o _ 4 3 _ (by decide)];refine s _ _ _ (.bool (isd acc0 3)) ?_;rw[o _ 2 3 _ (by decide),o _ 1 3 _ (by decide),o _ 0 3 _ (by decide)];exact h.c3
 ·rw[o _ 6 4 _ (by decide),o _ 5 4 _ (by decide)];refine s _ _ _ (.bool (isd acc0 4)) ?_;rw[o _ 3 4 _ (by decide),o _ 2 4 _ (by decide),o _ 1 4 _ (by decide),o _ 0 4 _ (by decide)];exact h.c4
 ·rw[o _ 6 5 _ (by decide)];refine s _ _ _ (.bool (isd acc0 5)) ?_;rw[o _ 4 5 _ (by decide),o _ 3 5 _ (by decide),o _ 2 5 _ (by decide),o _ 1 5 _ (by decide),o _ 0 5 _ (by decide)];exact h.c5
 ·refine s _ _ _ (.bool (isd acc0 6)) ?_;rw[o _ 5 6 _ (by decide),o _ 4 6 _ (by decide),o _ 3 6 _ (by decide),o _ 2 6 _ (by decide),o _ 1 6 _ (by decide),o _ 0 6 _ (by decide)];exact h.c6
 ·simp only[World.frozen?_setCell];exact h.f j
def OnR(b:Bool)(s:ByteArray)(e:Ending):Prop:=∃ acc,e=.returned (a3E acc)/\(b=true->Txt.onW s=some acc)
theorem c7y(w:World)(b:Nat)(v0 v1 v2 v3 v4 v5 v6:Bool)(c o:Nat)(h:c≠b):(((((((w.setCell ⟨b,0,none⟩ (.bool v0)).setCell ⟨b,1,none⟩ (.bool v1)).setCell ⟨b,2,none⟩ (.bool v2)).setCell ⟨b,3,none⟩ (.bool v3)).setCell ⟨b,4,none⟩ (.bool v4)).setCell ⟨b,5,none⟩ (.bool v5)).setCell ⟨b,6,none⟩ (.bool v6)).cell? ⟨c,o,none⟩=w.cell? ⟨c,o,none⟩:=by
 have g:∀ (x:World) (j:Nat) (v:Value),(x.setCell ⟨b,j,none⟩ v).cell? ⟨c,o,none⟩=x.cell? ⟨c,o,none⟩:=fun x j v=>World.cell?_setCell_far x ⟨b,j,none⟩ ⟨c,o,none⟩ v (Ne.symm h)
 rw[g,g,g,g,g,g,g]
theorem b4s(b:Bool)(R A:Nat)(ws:List ByteArray)(nx:Nat)(wr:Bool)(w:World)(h:RS w R A ws nx wr)(he:Env w)(hm:a1b ws.length nx wr=true)(hlt:nx<ws.length)(hb:Txt.onB ws[nx]=b):
  Calls Tryz.prog 193 #[.pointer (some ⟨R,0,none⟩),.func (.func 194) #[] #[]] w fun e w'=>OnR b ws[nx] e/\RS w' R A ws (if b then nx+1 else nx) (if b then wr else true)/\Kept R w w':=by
 have hi:(nx:Int)<(ws.length:Int):=by omega
 have hi0:(0:Int)<=(nx:Int):=Int.natCast_nonneg _;have hsz:ws[nx].size<=160:=h.short _ (zg hlt);have HSZ:=hide hsz;have HE:=hide he;clear hsz he
 go_enter Tryz.func193,Tryz.ntmps193
 go_wp2_with fail
 obtain⟨X,hX⟩:∃ X,X=(w.alloc (.cells #[.bool false,.bool false,.bool false,.bool false,.bool false,.bool false,.bool false] 160)).alloc (.cells #[.bool false,.bool false,.bool false,.bool false,.bool false,.bool false,.bool false] 160):=⟨_,rfl⟩;rw[<- hX];obtain⟨hRl,hAl⟩:=h.lt;have hB:Below w.heap.size w X:=by rw[hX];exact ((zr _ _).alloc (zq _) _).alloc (by simp) _
 have hZ:w.heap.size+2=X.heap.size:=by rw[hX];simp
 have dR:DS X w.heap.size []:=by
  rw[hX];refine⟨?_,?_,?_,?_,?_,?_,?_,fun j=>?_⟩ <;> simp[isd]
 have dD:DS X (w.heap.size+1) []:=by
  rw[hX];refine⟨?_,?_,?_,?_,?_,?_,?_,fun j=>?_⟩ <;> simp[isd]
 clear hX;refine (a0X R A ws nx wr X (h.of_below hB)).mono ?_;rintro e w1 ⟨rfl,n,hw⟩;have h1:RS w1 R A ws nx wr:=by rw[hw];exact (h.of_below hB).drewN n
 have k1:Kept R w w1:=by rw[hw];exact (Kept.of_below hB).drewN n
 have d1R:DS w1 w.heap.size []:=by rw[hw];exact⟨dR.c0,dR.c1,dR.c2,dR.c3,dR.c4,dR.c5,dR.c6,dR.f⟩
 have d1D:DS w1 (w.heap.size+1) []:=by rw[hw];exact⟨dD.c0,dD.c1,dD.c2,dD.c3,dD.c4,dD.c5,dD.c6,dD.f⟩
 have z1:X.heap.size=w1.heap.size:=by rw[hw];rfl
 have HE1:Hid (Env w1):=by show Env w1;rw[hw];exact ((a0d HE).later hB).drewN n
 have c0:=h1.c0;have c1:=h1.c1;have cr:=h1.rows nx hlt;have hl:=h1.len;clear hw
 go_wp2_with fail
 have hnR:w1.heap.size≠R:=by have:=h1.lt.1;omega
 have hnA:w1.heap.size≠A:=by have:=h1.lt.2 (by omega);omega
 go_region_held3 (fun w'=>w'.cell? ⟨R,0,none⟩=some (.slice (some ⟨A,0,none⟩) ws.length ws.length)/\w'.cell? ⟨R,1,none⟩=some (.int .i64 nx)/\w'.cell? ⟨A,nx,none⟩=some (.string ws[nx]))
  (first
   |go_keep
   |(
    go_split_ands
    refine⟨?_,?_,?_⟩
    ·exact cell_later hbf (by assumption)
    ·exact cell_later hbf (by assumption)
    ·exact cell_later hbf (by assumption))
   |(
    refine⟨?_,?_,?_⟩
    ·exact cell_later ((zr _ _).alloc (zq _) _) (cell_later hbf c0)
    ·exact cell_later ((zr _ _).alloc (zq _) _) (cell_later hbf c1)
    ·exact cell_later ((zr _ _).alloc (zq _) _) (cell_later hbf cr))
   |(
    refine⟨?_,?_,?_⟩
    ·exact (kq _ _ hnR.symm).trans (cell_later hbf (cell_later ((zr _ _).alloc (zq _) _) c0))
    ·exact (kq _ _ hnR.symm).trans (cell_later hbf (cell_later ((zr _ _).alloc (zq _) _) c1))
    ·exact (kq _ _ hnA.symm).trans (cell_later hbf (cell_later ((zr _ _).alloc (zq _) _) cr))))
  ((go_at_call 194;first
   |(
    refine (b0z _ _ ?_ (a0d HSZ)).mono ?_
    ·exact (a0d HE1).later ⟨rfl,rfl,rfl,Nat.le_refl _,fun _ _=>rfl⟩
    rintro e w4 ⟨⟨acc,rfl,hacc⟩,hbf⟩
    simp only[a3E])
   |(
    refine (b0z _ _ ?_ (a0d HSZ)).mono ?_
    ·exact ((a0d HE1).later ((zr _ _).alloc (zq _) _)).later ⟨rfl,rfl,rfl,Nat.le_refl _,fun _ _=>rfl⟩
    rintro e w4 ⟨⟨acc,rfl,hacc⟩,hbf⟩;have dq:DS w4 w1.heap.size []:=DS.later (by refine⟨?_,?_,?_,?_,?_,?_,?_,fun j=>?_⟩ <;> simp[isd]) hbf;have t0:=dq.c0;have t1:=dq.c1;have t2:=dq.c2;have t3:=dq.c3;have t4:=dq.c4;have t5:=dq.c5;have t6:=dq.c6;have tf:=dq.f;have kq:=c7y w4 w1.heap.size (isd acc 0) (isd acc 1) (isd acc 2) (isd acc 3) (isd acc 4) (isd acc 5) (isd acc 6);clear dq
    simp only[a3E])))
 ·obtain⟨Z,hZZ⟩:∃ Z,Z=w4.alloc (.cells #[.bool (isd acc 0),.bool (isd acc 1),.bool (isd acc 2),.bool (isd acc 3),.bool (isd acc 4),.bool (isd acc 5),.bool (isd acc 6)] 160):=⟨_,rfl⟩;rw[<- hZZ];have hbf':Below w1.heap.size w1 w4:=⟨hbf.os,hbf.tape,hbf.output,hbf.size,hbf.block⟩;have hbz:Below w1.heap.size w1 Z:=by rw[hZZ];exact hbf'.trans ((zr _ _).alloc hbf'.size _)
  have dV:DS Z w4.heap.size acc:=by
   rw[hZZ];refine⟨?_,?_,?_,?_,?_,?_,?_,fun j=>?_⟩ <;> simp
  have hVV:w.heap.size+1<w4.heap.size:=by have:=hbf'.size;omega
  have hZR:=h1.of_below hbz;have kZ:=k1.trans (Kept.of_below (R:=R) hbz);have zR:=d1R.later hbz;have zD:=d1D.later hbz;obtain⟨V,hV⟩:∃ V,V=w4.heap.size:=⟨_,rfl⟩;rw[<- hV] at hVV dV ⊢;clear hZZ hbf' hbz hbf hV d1R d1D dR dD;rw[hb] at hacc;have HACC:=hide hacc;clear c0 c1 cr hacc h1 k1 h;have x1:=hZR.c1;have x2:=hZR.c2;have x3:=hZR.f1;have x4:=hZR.f2;have q0:=zD.c0;have q1:=zD.c1;have q2:=zD.c2;have q3:=zD.c3;have q4:=zD.c4;have q5:=zD.c5;have q6:=zD.c6;have r0:=zR.c0;have r1:=zR.c1;have r2:=zR.c2;have r3:=zR.c3;have r4:=zR.c4;have r5:=zR.c5;have r6:=zR.c6;have fR:=zR.f;have s0:=dV.c0;have s1:=dV.c1;have s2:=dV.c2;have s3:=dV.c3;have s4:=dV.c4;have s5:=dV.c5;have s6:=dV.c6;have n1:R≠w.heap.size:=by omega
  have n2:R≠w.heap.size+1:=by omega
  have n3:R≠V:=by omega
  have HZR:=hide hZR;clear hZR zR zD dV
  cases b
  ·go_wp2;refine bodyPost_ret (v:=a3E []) (by simp[results,Tryz.results193,go_sem,a3E,isd,r0,r1,r2,r3,r4,r5,r6]) rfl ⟨⟨[],rfl,fun h=>absurd h (by decide)⟩,?_,?_⟩
   ·exact ((((((((a0d HZR).bad.other (by omega) (fun hl=>by have:=hAl hl;omega)).other (by omega) (fun hl=>by have:=hAl hl;omega)).other (by omega) (fun hl=>by have:=hAl hl;omega)).other (by omega) (fun hl=>by have:=hAl hl;omega)).other (by omega) (fun hl=>by have:=hAl hl;omega)).other (by omega) (fun hl=>by have:=hAl hl;omega)).other (by omega) (fun hl=>by have:=hAl hl;omega))
   ·exact (((((((kZ.setCell _ _).setNew (zq _) _).setNew (zq _) _).setNew (zq _) _).setNew (zq _) _).setNew (zq _) _).setNew (zq _) _).setNew (zq _) _
  ·go_wp2;refine bodyPost_ret (v:=a3E acc) (by simp[results,Tryz.results193,go_sem,a3E,r0,r1,r2,r3,r4,r5,r6]) rfl ⟨⟨acc,rfl,fun _=>a0d HACC trivial⟩,?_,?_⟩
   ·exact (((((((((a0d HZR).step hlt).other (by omega) (fun hl=>by have:=hAl hl;omega)).other (by omega) (fun hl=>by have:=hAl hl;omega)).other (by omega) (fun hl=>by have:=hAl hl;omega)).other (by omega) (fun hl=>by have:=hAl hl;omega)).other (by omega) (fun hl=>by have:=hAl hl;omega)).other (by omega) (fun hl=>by have:=hAl hl;omega)).other (by omega) (fun hl=>by have:=hAl hl;omega))
   ·exact (((((((kZ.setCell _ _).setNew (zq _) _).setNew (zq _) _).setNew (zq _) _).setNew (zq _) _).setNew (zq _) _).setNew (zq _) _).setNew (zq _) _
 ·obtain⟨Z,hZZ⟩:∃ Z,Z=((((((w4.setCell ⟨w1.heap.size,0,none⟩ (.bool (isd acc 0))).setCell ⟨w1.heap.size,1,none⟩ (.bool (isd acc 1))).setCell ⟨w1.heap.size,2,none⟩ (.bool (isd acc 2))).setCell ⟨w1.heap.size,3,none⟩ (.bool (isd acc 3))).setCell ⟨w1.heap.size,4,none⟩ (.bool (isd acc 4))).setCell ⟨w1.heap.size,5,none⟩ (.bool (isd acc 5))).setCell ⟨w1.heap.size,6,none⟩ (.bool (isd acc 6)):=⟨_,rfl⟩;rw[<- hZZ];have hbf0:Below w1.heap.size (w1.alloc (.cells #[.bool false,.bool false,.bool false,.bool false,.bool false,.bool false,.bool false] 160)) w4:=⟨hbf.os,hbf.tape,hbf.output,hbf.size,fun k hk=>hbf.block k (by simp;omega)⟩;have hbf':Below w1.heap.size w1 w4:=((zr w1.heap.size w1).alloc (zq _) _).trans hbf0;clear hbf0;have hbz:Below w1.heap.size w1 Z:=by rw[hZZ];exact ((((((hbf'.setCell (zq _) _).setCell (zq _) _).setCell (zq _) _).setCell (zq _) _).setCell (zq _) _).setCell (zq _) _).setCell (zq _) _
  have dV:DS Z w1.heap.size acc:=by
   rw[hZZ];exact c3r acc (acc0:=[]) ⟨t0,t1,t2,t3,t4,t5,t6,tf⟩
  have hVV:w.heap.size+1<w1.heap.size:=by omega
  have hZR:=h1.of_below hbz;have kZ:=k1.trans (Kept.of_below (R:=R) hbz);have zR:=d1R.later hbz;have zD:=d1D.later hbz;obtain⟨V,hV⟩:∃ V,V=w1.heap.size:=⟨_,rfl⟩;rw[<- hV] at hVV dV ⊢;clear hZZ hbf' hbz hbf hV d1R d1D dR dD t0 t1 t2 t3 t4 t5 t6 tf kq;rw[hb] at hacc;have HACC:=hide hacc;clear c0 c1 cr hacc h1 k1 h;have x1:=hZR.c1;have x2:=hZR.c2;have x3:=hZR.f1;have x4:=hZR.f2;have q0:=zD.c0;have q1:=zD.c1;have q2:=zD.c2;have q3:=zD.c3;have q4:=zD.c4;have q5:=zD.c5;have q6:=zD.c6;have r0:=zR.c0;have r1:=zR.c1;have r2:=zR.c2;have r3:=zR.c3;have r4:=zR.c4;have r5:=zR.c5;have r6:=zR.c6;have fR:=zR.f;have s0:=dV.c0;have s1:=dV.c1;have s2:=dV.c2;have s3:=dV.c3;have s4:=dV.c4;have s5:=dV.c5;have s6:=dV.c6;have n1:R≠w.heap.size:=by omega
  have n2:R≠w.heap.size+1:=by omega
  have n3:R≠V:=by omega
  have HZR:=hide hZR;clear hZR zR zD dV
  cases b
  ·go_wp2;refine bodyPost_ret (v:=a3E []) (by simp[results,Tryz.results193,go_sem,a3E,isd,r0,r1,r2,r3,r4,r5,r6]) rfl ⟨⟨[],rfl,fun h=>absurd h (by decide)⟩,?_,?_⟩
   ·exact ((((((((a0d HZR).bad.other (by omega) (fun hl=>by have:=hAl hl;omega)).other (by omega) (fun hl=>by have:=hAl hl;omega)).other (by omega) (fun hl=>by have:=hAl hl;omega)).other (by omega) (fun hl=>by have:=hAl hl;omega)).other (by omega) (fun hl=>by have:=hAl hl;omega)).other (by omega) (fun hl=>by have:=hAl hl;omega)).other (by omega) (fun hl=>by have:=hAl hl;omega))
   ·exact (((((((kZ.setCell _ _).setNew (zq _) _).setNew (zq _) _).setNew (zq _) _).setNew (zq _) _).setNew (zq _) _).setNew (zq _) _).setNew (zq _) _
  ·go_wp2;refine bodyPost_ret (v:=a3E acc) (by simp[results,Tryz.results193,go_sem,a3E,r0,r1,r2,r3,r4,r5,r6]) rfl ⟨⟨acc,rfl,fun _=>a0d HACC trivial⟩,?_,?_⟩
   ·exact (((((((((a0d HZR).step hlt).other (by omega) (fun hl=>by have:=hAl hl;omega)).other (by omega) (fun hl=>by have:=hAl hl;omega)).other (by omega) (fun hl=>by have:=hAl hl;omega)).other (by omega) (fun hl=>by have:=hAl hl;omega)).other (by omega) (fun hl=>by have:=hAl hl;omega)).other (by omega) (fun hl=>by have:=hAl hl;omega)).other (by omega) (fun hl=>by have:=hAl hl;omega))
   ·exact (((((((kZ.setCell _ _).setNew (zq _) _).setNew (zq _) _).setNew (zq _) _).setNew (zq _) _).setNew (zq _) _).setNew (zq _) _).setNew (zq _) _
theorem b7M(R A:Nat)(ws:List ByteArray)(nx:Nat)(wr:Bool)(w:World)(h:RS w R A ws nx wr)(he:Env w):
  Calls Tryz.prog 193 #[.pointer (some ⟨R,0,none⟩),.func (.func 194) #[] #[]] w fun e w'=>OnR (tkB ws nx wr Txt.onB) (ws.getD nx ByteArray.empty) e/\RS w' R A ws (tkN ws nx wr Txt.onB) (tkW ws nx wr Txt.onB)/\Kept R w w':=by
 cases hm:a1b ws.length nx wr
 ·have t:=a8I (B:=Txt.onB) hm;rw[tkN,tkW,t];refine (b7L _ R A ws nx wr w h hm).mono ?_;rintro e w' ⟨rfl,h1,k1⟩;exact⟨⟨[],rfl,fun h=>absurd h (by decide)⟩,h1,k1⟩
 ·have hlt:=a4q hm;obtain⟨b,hb⟩:∃ b,Txt.onB ws[nx]=b:=⟨_,rfl⟩;have t:=a7h (B:=Txt.onB) hm hlt hb;rw[tkN,tkW,t,a5f ws nx hlt];exact b4s b R A ws nx wr w h he hm hlt hb
def rv(pc ev:Int)(acc:List Int)(fr mn mi ti un:Int):Nat->Value
 |0=>.int .i64 pc
 |1=>.int .i64 ev
 |2=>.bool (isd acc 0)
 |3=>.bool (isd acc 1)
 |4=>.bool (isd acc 2)
 |5=>.bool (isd acc 3)
 |6=>.bool (isd acc 4)
 |7=>.bool (isd acc 5)
 |8=>.bool (isd acc 6)
 |9=>.int .i64 fr
 |10=>.int .i64 mn
 |11=>.int .i64 mi
 |12=>.int .i64 ti
 |_=>.int .i64 un
structure RL(w:World)(P:Nat)(v:Nat->Value):Prop where
 c:∀ j:Nat,j<14->w.cell? ⟨P,j,none⟩=some (v j)
 f:∀ j:Nat,w.frozen? ⟨P,j,none⟩=false
theorem c1L{p:Nat->Prop}(h0:p 0)(h1:p 1)(h2:p 2)(h3:p 3)(h4:p 4)(h5:p 5)(h6:p 6)(h7:p 7)(h8:p 8)(h9:p 9)(h10:p 10)(h11:p 11)(h12:p 12)(h13:p 13):∀ j:Nat,j<14->p j
 |0,_=>h0
 |1,_=>h1
 |2,_=>h2
 |3,_=>h3
 |4,_=>h4
 |5,_=>h5
 |6,_=>h6
 |7,_=>h7
 |8,_=>h8
 |9,_=>h9
 |10,_=>h10
 |11,_=>h11
 |12,_=>h12
 |13,_=>h13
 |n+14,h=>absurd h (by omega)
theorem RL.lt(h:RL w P v):P<w.heap.size:=World.block_lt_of_cell? _ ⟨P,0,none⟩ (h.c 0 (by omega))
theorem RL.set(h:RL w P v)(j:Nat)(hj:j<14)(x:Value):RL (w.setCell ⟨P,j,none⟩ x) P (fun i=>if i=j then x else v i):=by
 refine⟨fun i hi=>?_,fun i=>(zF ..).trans (h.f i)⟩
 by_cases e:i=j
 ·subst e;rw[if_pos rfl];exact zm _ ⟨P,i,none⟩ _ (h.c i hi)
 ·rw[if_neg e];exact (zS _ _ _ _ (by simp)).trans (h.c i hi)
theorem RL.congr{v':Nat->Value}(h:RL w P v)(e:∀ j:Nat,j<14->v j=v' j):RL w P v':=⟨fun j hj=>by rw[<- e j hj];exact h.c j hj,h.f⟩
theorem RL.other{o:Nat}{x:Value}(h:RL w P v)(hb:b≠P):RL (w.setCell ⟨b,o,none⟩ x) P v :=
 ⟨fun j hj=>(World.cell?_setCell_far w ⟨b,o,none⟩ ⟨P,j,none⟩ x hb).trans (h.c j hj),fun i=>(zF ..).trans (h.f i)⟩
theorem RL.kept(h:RL w P v)(k:Kept R w w')(hb:P≠R):RL w' P v :=
 ⟨fun j hj=>k.cell hb (h.c j hj),fun j=>(k.frozen hb h.lt).trans (h.f j)⟩
structure a4B(R P:Nat)(w w':World):Prop where
 os:w'.os=w.os
 tape:w'.tape=w.tape
 output:w'.output=w.output
 size:w.heap.size<=w'.heap.size
 block:∀ k,k<w.heap.size->k≠R->k≠P->w'.heap[k]?=w.heap[k]?
theorem Kept.two(P:Nat)(k:Kept R w w'):a4B R P w w':=⟨k.os,k.tape,k.output,k.size,fun i hi hr _=>k.block i hi hr⟩
theorem a4B.trans{a b c:World}(h:a4B R P a b)(k:a4B R P b c):a4B R P a c :=
 ⟨k.os.trans h.os,k.tape.trans h.tape,k.output.trans h.output,Nat.le_trans h.size k.size,fun i hi hr hp=>(k.block i (zL hi h.size) hr hp).trans (h.block i hi hr hp)⟩
theorem a4B.setP(h:a4B R P w w')(o:Nat)(v:Value):a4B R P w (w'.setCell ⟨P,o,none⟩ v) :=
 ⟨(Below.setCell (B:=0) (Below.refl 0 w') (p:=⟨P,o,none⟩) (zN _) v).os.trans h.os,(Below.setCell (B:=0) (Below.refl 0 w') (p:=⟨P,o,none⟩) (zN _) v).tape.trans h.tape,(Below.setCell (B:=0) (Below.refl 0 w') (p:=⟨P,o,none⟩) (zN _) v).output.trans h.output,Nat.le_trans h.size (Below.setCell (B:=0) (Below.refl 0 w') (p:=⟨P,o,none⟩) (zN _) v).size,fun k hk hr hp=>(Below.heap_setCell w' ⟨P,o,none⟩ v k hp).trans (h.block k hk hr hp)⟩
theorem a4B.setR(h:a4B R P w w')(o:Nat)(v:Value):a4B R P w (w'.setCell ⟨R,o,none⟩ v) :=
 ⟨(Below.setCell (B:=0) (Below.refl 0 w') (p:=⟨R,o,none⟩) (zN _) v).os.trans h.os,(Below.setCell (B:=0) (Below.refl 0 w') (p:=⟨R,o,none⟩) (zN _) v).tape.trans h.tape,(Below.setCell (B:=0) (Below.refl 0 w') (p:=⟨R,o,none⟩) (zN _) v).output.trans h.output,Nat.le_trans h.size (Below.setCell (B:=0) (Below.refl 0 w') (p:=⟨R,o,none⟩) (zN _) v).size,fun k hk hr hp=>(Below.heap_setCell w' ⟨R,o,none⟩ v k hr).trans (h.block k hk hr hp)⟩
theorem a4B.one{x:World}(k:Kept R w x)(h:a4B R P x w')(hp:w.heap.size<=P):Kept R w w' :=
 ⟨h.os.trans k.os,h.tape.trans k.tape,h.output.trans k.output,Nat.le_trans k.size h.size,fun i hi hr=>(h.block i (zL hi k.size) hr (by omega)).trans (k.block i hi hr)⟩
theorem Env.kept2(h:Env w)(k:a4B R P w w')(hR:10<=R)(hP:10<=P):Env w':=by
 have hb:Below 10 w w':=⟨k.os,k.tape,k.output,k.size,fun i hi=>k.block i (zL hi h.size) (by omega) (by omega)⟩;have hc:∀ (b o:Nat) (v:Value),b<10->w.cell? ⟨b,o,none⟩=some v->w'.cell? ⟨b,o,none⟩=some v:=fun b o v hb' e=>(hb.cell (p:=⟨b,o,none⟩) hb').trans e
 obtain⟨m,hm⟩:=h.c5L;obtain⟨c0,c1,c2,c3,c4,c5,c6,c7,c8,c9,c10,c11⟩:=h.tab;refine⟨⟨hc _ _ _ (by omega) c0,hc _ _ _ (by omega) c1,hc _ _ _ (by omega) c2,hc _ _ _ (by omega) c3,hc _ _ _ (by omega) c4,hc _ _ _ (by omega) c5,hc _ _ _ (by omega) c6,hc _ _ _ (by omega) c7,hc _ _ _ (by omega) c8,hc _ _ _ (by omega) c9,hc _ _ _ (by omega) c10,hc _ _ _ (by omega) c11⟩,⟨m,hc _ _ _ (by omega) hm⟩,?_,Nat.le_trans h.size k.size,hc _ _ _ (by omega) h.mo,hc _ _ _ (by omega) h.tu,hc _ _ _ (by omega) h.we,hc _ _ _ (by omega) h.th,hc _ _ _ (by omega) h.fr,hc _ _ _ (by omega) h.sa,hc _ _ _ (by omega) h.su⟩;have hp:=h.pow;unfold Lib.TabIs World.var? at hp ⊢;simp only[c6q,Option.bind_some] at hp ⊢;rw[hb.block 0 (by omega)];exact hp
def b0Y:ByteArray:=⟨#[100,97,105,108,121]⟩
def a8D:ByteArray:=⟨#[119,101,101,107,108,121]⟩
def a8w:ByteArray:=⟨#[109,111,110,116,104,108,121]⟩
def b2z:ByteArray:=⟨#[116,105,109,101,115]⟩
def b5O:ByteArray:=⟨#[117,110,116,105,108]⟩
def a1t:ByteArray:=⟨#[102,114,111,109]⟩
def atW:ByteArray:=⟨#[97,116]⟩
def b3z:ByteArray:=⟨#[102,111,114]⟩
def evB(s:ByteArray):Bool:=a0K s 1 99
def miB(s:ByteArray):Bool:=a0K s 1 1048320
def a1s(x s:ByteArray):Bool:=s.toList==x.toList
def nxt(st:Nat × Bool):Nat × Bool:=(st.1+1,st.2)
inductive b0n (ws:List ByteArray) (st:Nat × Bool):Int->Int->List Int->Nat × Bool->Prop where
 |daily (h:isB ws st.1 st.2 b0Y=true):b0n ws st 1 (a0v ws (nxt st) evB nvF) [] (a0M ws [evB] (nxt st))
 |weekly (h1:isB ws st.1 st.2 b0Y=false) (h:isB ws st.1 st.2 a8D=true) (acc:List Int) (ha:tkB ws (a0M ws [evB] (nxt st)).1 (a0M ws [evB] (nxt st)).2 Txt.onB=true->Txt.onW (ws.getD (a0M ws [evB] (nxt st)).1 ByteArray.empty)=some acc):
   b0n ws st 2 (a0v ws (nxt st) evB nvF) acc (a0M ws [evB,Txt.onB] (nxt st))
 |monthly (h1:isB ws st.1 st.2 b0Y=false) (h2:isB ws st.1 st.2 a8D=false) (h:isB ws st.1 st.2 a8w=true):b0n ws st 3 (a0v ws (nxt st) evB nvF) [] (a0M ws [evB] (nxt st))
 |none (h1:isB ws st.1 st.2 b0Y=false) (h2:isB ws st.1 st.2 a8D=false) (h:isB ws st.1 st.2 a8w=false):b0n ws st 0 0 [] (st.1,true)
theorem b4J{ev:Int}(h:RL w P (rv pc ev acc fr mn mi ti un))(x:Int):RL (w.setCell ⟨P,0,none⟩ (.int .i64 x)) P (rv x ev acc fr mn mi ti un):=(h.set 0 (by omega) _).congr (c1L rfl rfl rfl rfl rfl rfl rfl rfl rfl rfl rfl rfl rfl rfl)
theorem b4I{ev:Int}(h:RL w P (rv pc ev acc fr mn mi ti un))(x:Int):RL (w.setCell ⟨P,1,none⟩ (.int .i64 x)) P (rv pc x acc fr mn mi ti un):=(h.set 1 (by omega) _).congr (c1L rfl rfl rfl rfl rfl rfl rfl rfl rfl rfl rfl rfl rfl rfl)
theorem c4Q{ev:Int}(h:RL w P (rv pc ev acc fr mn mi ti un))(x:Int):RL (w.setCell ⟨P,9,none⟩ (.int .i64 x)) P (rv pc ev acc x mn mi ti un):=(h.set 9 (by omega) _).congr (c1L rfl rfl rfl rfl rfl rfl rfl rfl rfl rfl rfl rfl rfl rfl)
theorem c2u{ev:Int}(h:RL w P (rv pc ev acc fr mn mi ti un))(x:Int):RL (w.setCell ⟨P,10,none⟩ (.int .i64 x)) P (rv pc ev acc fr x mi ti un):=(h.set 10 (by omega) _).congr (c1L rfl rfl rfl rfl rfl rfl rfl rfl rfl rfl rfl rfl rfl rfl)
theorem c2t{ev:Int}(h:RL w P (rv pc ev acc fr mn mi ti un))(x:Int):RL (w.setCell ⟨P,11,none⟩ (.int .i64 x)) P (rv pc ev acc fr mn x ti un):=(h.set 11 (by omega) _).congr (c1L rfl rfl rfl rfl rfl rfl rfl rfl rfl rfl rfl rfl rfl rfl)
theorem c2s{ev:Int}(h:RL w P (rv pc ev acc fr mn mi ti un))(x:Int):RL (w.setCell ⟨P,12,none⟩ (.int .i64 x)) P (rv pc ev acc fr mn mi x un):=(h.set 12 (by omega) _).congr (c1L rfl rfl rfl rfl rfl rfl rfl rfl rfl rfl rfl rfl rfl rfl)
theorem c2r{ev:Int}(h:RL w P (rv pc ev acc fr mn mi ti un))(x:Int):RL (w.setCell ⟨P,13,none⟩ (.int .i64 x)) P (rv pc ev acc fr mn mi ti x):=(h.set 13 (by omega) _).congr (c1L rfl rfl rfl rfl rfl rfl rfl rfl rfl rfl rfl rfl rfl rfl)
theorem c2q{ev:Int}(h:RL w P (rv pc ev acc fr mn mi ti un))(x:List Int):
  RL (((((((w.setCell ⟨P,2,none⟩ (.bool (isd x 0))).setCell ⟨P,3,none⟩ (.bool (isd x 1))).setCell ⟨P,4,none⟩ (.bool (isd x 2))).setCell ⟨P,5,none⟩ (.bool (isd x 3))).setCell ⟨P,6,none⟩ (.bool (isd x 4))).setCell ⟨P,7,none⟩ (.bool (isd x 5))).setCell ⟨P,8,none⟩ (.bool (isd x 6))) P (rv pc ev x fr mn mi ti un) :=
 (((((((h.set 2 (by omega) _).set 3 (by omega) _).set 4 (by omega) _).set 5 (by omega) _).set 6 (by omega) _).set 7 (by omega) _).set 8 (by omega) _).congr (c1L rfl rfl rfl rfl rfl rfl rfl rfl rfl rfl rfl rfl rfl rfl)
theorem b9F(R A P:Nat)(ws:List ByteArray)(st:Nat × Bool)(w:World)(h:RS w R A ws st.1 st.2)(he:Env w)(hR:10<=R)(hP:10<=P)(hPR:P≠R)(hPA:0<ws.length->P≠A)(hl:RL w P (rv 0 0 [] 0 0 0 0 0)):
  Calls Tryz.prog 133 #[.pointer (some ⟨R,0,none⟩),.pointer (some ⟨P,0,none⟩)] w fun e w' =>
   ∃ (pc ev:Int) (acc:List Int) (s:Nat × Bool),e=.returned (.tuple #[])/\b0n ws st pc ev acc s/\RS w' R A ws s.1 s.2/\RL w' P (rv pc ev acc 0 0 0 0 0)/\a4B R P w w':=by
 have HE:=hide he;clear he
 go_enter Tryz.func133,Tryz.ntmps133
 go_wp2_with fail
 refine (a2n R A ws st.1 st.2 b0Y w h).mono ?_;rintro e w1 ⟨rfl,h1,k1⟩;have kk1:=k1.two P;have l1:=hl.kept k1 hPR;clear h hl k1
 cases hd:isB ws st.1 st.2 b0Y
 ·rw[hd] at h1
  go_wp2_with fail
  refine (a2n R A ws st.1 st.2 a8D w1 h1).mono ?_;rintro e w2 ⟨rfl,h2,k2⟩;have kk2:=kk1.trans (k2.two P);have l2:=l1.kept k2 hPR;clear h1 kk1 l1 k2
  cases hw:isB ws st.1 st.2 a8D
  ·rw[hw] at h2
   go_wp2_with fail
   refine (a2n R A ws st.1 st.2 a8w w2 h2).mono ?_;rintro e w3 ⟨rfl,h3,k3⟩;have kk3:=kk2.trans (k3.two P);have l3:=l2.kept k3 hPR;clear h2 kk2 l2 k3
   cases hm:isB ws st.1 st.2 a8w
   ·rw[hm] at h3;have c2:=h3.c2;have f2:=h3.f2;go_wp2
    go_end0
    exact⟨0,0,[],(st.1,true),rfl,.none hd hw hm,h3.bad,l3.other hPR.symm,kk3.setR _ _⟩
   ·rw[hm,if_pos rfl] at h3;have p0:=l3.c 0 (by omega);have pf:=l3.f
    go_wp2_with fail
    have hz:=h3.other (b:=P) (o:=0) (v:=.int .i64 3) hPR hPA;have lz:=b4J l3 3;have kz:=kk3.setP 0 (.int .i64 3);have EZ:=hide ((a0d HE).kept2 kz hR hP);clear p0 pf h3 l3 kk3;refine (a7v R A ws (st.1+1) st.2 _ hz).mono ?_;rintro e w5 ⟨rfl,h5,k5⟩;have kk5:=kz.trans (k5.two P);have l5:=lz.kept k5 hPR;have E5:=hide ((a0d EZ).kept k5 hR);clear hz lz kz k5;have p1:=l5.c 1 (by omega);have pf:=l5.f;go_wp2
    go_end0
    exact⟨3,a0v ws (nxt st) evB nvF,[],a0M ws [evB] (nxt st),rfl,.monthly hd hw hm,h5.other hPR hPA,b4I l5 _,kk5.setP _ _⟩
  ·rw[hw,if_pos rfl] at h2;have p0:=l2.c 0 (by omega);have pf:=l2.f
   go_wp2_with fail
   have hz:=h2.other (b:=P) (o:=0) (v:=.int .i64 2) hPR hPA;have lz:=b4J l2 2;have kz:=kk2.setP 0 (.int .i64 2);have EZ:=hide ((a0d HE).kept2 kz hR hP);clear p0 pf h2 l2 kk2;refine (a7v R A ws (st.1+1) st.2 _ hz).mono ?_;rintro e w5 ⟨rfl,h5,k5⟩;have kk5:=kz.trans (k5.two P);have l5:=lz.kept k5 hPR;have E5:=hide ((a0d EZ).kept k5 hR);clear hz lz kz k5;have p1:=l5.c 1 (by omega);have pf:=l5.f
   go_wp2_with fail
   have h6:=h5.other (b:=P) (o:=1) (v:=.int .i64 (tkV ws (st.1+1) st.2 (fun s=>a0K s 1 99) (fun s=>Txt.a2f s.data.toList))) hPR hPA;have l6:=b4I l5 (tkV ws (st.1+1) st.2 (fun s=>a0K s 1 99) (fun s=>Txt.a2f s.data.toList));have k6:=kk5.setP 1 (.int .i64 (tkV ws (st.1+1) st.2 (fun s=>a0K s 1 99) (fun s=>Txt.a2f s.data.toList)));have E6:=hide ((a0d HE).kept2 k6 hR hP);clear p1 pf h5 l5 kk5;refine (b7M R A ws _ _ _ h6 (a0d E6)).mono ?_;rintro e w7 ⟨⟨acc,rfl,hacc⟩,h7,k7⟩;have kk7:=k6.trans (k7.two P);have l7:=l6.kept k7 hPR;have HACC:=hide hacc;clear h6 l6 k6 k7 hacc;have p2:=l7.c 2 (by omega);have p3:=l7.c 3 (by omega);have p4:=l7.c 4 (by omega);have p5:=l7.c 5 (by omega);have p6:=l7.c 6 (by omega);have p7:=l7.c 7 (by omega);have p8:=l7.c 8 (by omega);have pf:=l7.f;have H7:=hide h7;clear h7;simp only[a3E];go_wp2
   go_end0
   exact⟨2,a0v ws (nxt st) evB nvF,acc,a0M ws [evB,Txt.onB] (nxt st),rfl,.weekly hd hw acc (a0d HACC),((((((((a0d H7).other hPR hPA).other hPR hPA).other hPR hPA).other hPR hPA).other hPR hPA).other hPR hPA).other hPR hPA),c2q l7 acc,(((((((kk7.setP _ _).setP _ _).setP _ _).setP _ _).setP _ _).setP _ _).setP _ _)⟩
 ·rw[hd,if_pos rfl] at h1;have p0:=l1.c 0 (by omega);have pf:=l1.f
  go_wp2_with fail
  have hz:=h1.other (b:=P) (o:=0) (v:=.int .i64 1) hPR hPA;have lz:=b4J l1 1;have kz:=kk1.setP 0 (.int .i64 1);have EZ:=hide ((a0d HE).kept2 kz hR hP);clear p0 pf h1 l1 kk1;refine (a7v R A ws (st.1+1) st.2 _ hz).mono ?_;rintro e w5 ⟨rfl,h5,k5⟩;have kk5:=kz.trans (k5.two P);have l5:=lz.kept k5 hPR;have E5:=hide ((a0d EZ).kept k5 hR);clear hz lz kz k5;have p1:=l5.c 1 (by omega);have pf:=l5.f;go_wp2
  go_end0
  exact⟨1,a0v ws (nxt st) evB nvF,[],a0M ws [evB] (nxt st),rfl,.daily hd,h5.other hPR hPA,b4I l5 _,kk5.setP _ _⟩
inductive c3M (ws:List ByteArray) (st:Nat × Bool):Int->Int->Nat × Bool->Prop where
 |times (h:isB ws st.1 st.2 b2z=true):c3M ws st (a0v ws (nxt st) evB nvF) 0 (a0M ws [evB] (nxt st))
 |til (h1:isB ws st.1 st.2 b2z=false) (h:isB ws st.1 st.2 b5O=true):c3M ws st 0 (a0v ws (nxt st) Txt.a2y b0a) (a0M ws [Txt.a2y] (nxt st))
 |none (h1:isB ws st.1 st.2 b2z=false) (h:isB ws st.1 st.2 b5O=false):c3M ws st 0 0 (st.1,true)
theorem c2x(R A P:Nat)(ws:List ByteArray)(st:Nat × Bool)(w:World)(pc ev:Int)(acc:List Int)(fr mn mi:Int)(h:RS w R A ws st.1 st.2)(he:Env w)(hR:10<=R)(hPR:P≠R)(hPA:0<ws.length->P≠A)(hl:RL w P (rv pc ev acc fr mn mi 0 0)):
  Calls Tryz.prog 138 #[.pointer (some ⟨R,0,none⟩),.pointer (some ⟨P,0,none⟩)] w fun e w' =>
   ∃ (ti un:Int) (s:Nat × Bool),e=.returned (.tuple #[])/\c3M ws st ti un s/\RS w' R A ws s.1 s.2/\RL w' P (rv pc ev acc fr mn mi ti un)/\a4B R P w w':=by
 have HE:=hide he;clear he
 go_enter Tryz.func138,Tryz.ntmps138
 go_wp2_with fail
 refine (a2n R A ws st.1 st.2 b2z w h).mono ?_;rintro e w1 ⟨rfl,h1,k1⟩;have kk1:=k1.two P;have l1:=hl.kept k1 hPR;have E1:=hide ((a0d HE).kept k1 hR);clear h hl k1
 cases hd:isB ws st.1 st.2 b2z
 ·rw[hd] at h1
  go_wp2_with fail
  refine (a2n R A ws st.1 st.2 b5O w1 h1).mono ?_;rintro e w2 ⟨rfl,h2,k2⟩;have kk2:=kk1.trans (k2.two P);have l2:=l1.kept k2 hPR;have E2:=hide ((a0d E1).kept k2 hR);clear h1 kk1 l1 k2
  cases hw:isB ws st.1 st.2 b5O
  ·rw[hw] at h2;have c2:=h2.c2;have f2:=h2.f2;go_wp2
   go_end0
   exact⟨0,0,(st.1,true),rfl,.none hd hw,h2.bad,l2.other hPR.symm,kk2.setR _ _⟩
  ·rw[hw,if_pos rfl] at h2
   go_wp2_with fail
   refine (a7W R A ws (st.1+1) st.2 w2 h2 (a0d E2)).mono ?_;rintro e w5 ⟨rfl,h5,k5⟩;have kk5:=kk2.trans (k5.two P);have l5:=l2.kept k5 hPR;clear h2 kk2 l2 k5;have p1:=l5.c 13 (by omega);have pf:=l5.f;go_wp2
   go_end0
   exact⟨0,a0v ws (nxt st) Txt.a2y b0a,a0M ws [Txt.a2y] (nxt st),rfl,.til hd hw,h5.other hPR hPA,c2r l5 _,kk5.setP _ _⟩
 ·rw[hd,if_pos rfl] at h1
  go_wp2_with fail
  refine (a4n 1 99 R A ws (st.1+1) st.2 w1 h1).mono ?_;rintro e w5 ⟨rfl,h5,k5⟩;have kk5:=kk1.trans (k5.two P);have l5:=l1.kept k5 hPR;clear h1 kk1 l1 k5;have p1:=l5.c 12 (by omega);have pf:=l5.f;go_wp2
  go_end0
  exact⟨a0v ws (nxt st) evB nvF,0,a0M ws [evB] (nxt st),rfl,.times hd,h5.other hPR hPA,c2s l5 _,kk5.setP _ _⟩
def c4Y(ws:List ByteArray)(s:Nat × Bool):Nat × Bool:=a0M ws [a1s a1t,Txt.a2y,a1s atW,Txt.a3a,a1s b3z,miB] s
inductive b0m (ws:List ByteArray) (st:Nat × Bool):Int->Int->List Int->Int->Int->Int->Int->Int->Nat × Bool->Prop where
 |mk (pc ev:Int) (acc:List Int) (s:Nat × Bool) (ti un:Int) (s':Nat × Bool) (hp:b0n ws st pc ev acc s) (he:c3M ws (c4Y ws s) ti un s'):
   b0m ws st pc ev acc (a0v ws (a0M ws [a1s a1t] s) Txt.a2y b0a) (a0v ws (a0M ws [a1s a1t,Txt.a2y,a1s atW] s) Txt.a3a Txt.a6J) (a0v ws (a0M ws [a1s a1t,Txt.a2y,a1s atW,Txt.a3a,a1s b3z] s) miB nvF) ti un s'
theorem RL.kept2{Q:Nat}(h:RL w P v)(k:a4B R Q w w')(hb:P≠R)(hq:P≠Q):RL w' P v :=
 ⟨fun j hj=>(zo (w:=w) (k.block P h.lt hb hq)).trans (h.c j hj),fun j=>(World.frozen?_of_block (w:=w) (k.block P h.lt hb hq)).trans (h.f j)⟩
def b9E(pc ev:Int)(acc:List Int)(fr mn mi ti un:Int):Value :=
 .agg #[.int .i64 pc,.int .i64 ev,.bool (isd acc 0),.bool (isd acc 1),.bool (isd acc 2),.bool (isd acc 3),.bool (isd acc 4),.bool (isd acc 5),.bool (isd acc 6),.int .i64 fr,.int .i64 mn,.int .i64 mi,.int .i64 ti,.int .i64 un]
def g3M(ws:List ByteArray):Prop:=∀ (R A:Nat)(st:Nat × Bool)(w:World),RS w R A ws st.1 st.2->Env w->10<=R ->
  Calls Tryz.prog 87 #[.pointer (some ⟨R,0,none⟩)] w fun e w' =>
   ∃ (pc ev:Int) (acc:List Int) (fr mn mi ti un:Int) (s:Nat × Bool),e=.returned (b9E pc ev acc fr mn mi ti un)/\b0m ws st pc ev acc fr mn mi ti un s/\RS w' R A ws s.1 s.2/\Kept R w w'
theorem b2P(R A:Nat)(ws:List ByteArray)(st:Nat × Bool)(w:World)(h:RS w R A ws st.1 st.2)(he:Env w)(hR:10<=R):
  Calls Tryz.prog 87 #[.pointer (some ⟨R,0,none⟩)] w fun e w' =>
   ∃ (pc ev:Int) (acc:List Int) (fr mn mi ti un:Int) (s:Nat × Bool),e=.returned (b9E pc ev acc fr mn mi ti un)/\b0m ws st pc ev acc fr mn mi ti un s/\RS w' R A ws s.1 s.2/\Kept R w w':=by
 have HE:=hide he;clear he
 go_enter Tryz.func87,Tryz.ntmps87
 go_wp2_with fail
 obtain⟨hRl,hAl⟩:=h.lt;obtain⟨X,hX⟩:∃ X,X=(w.alloc (.cells #[.int .i64 0,.int .i64 0,.bool false,.bool false,.bool false,.bool false,.bool false,.bool false,.bool false,.int .i64 0,.int .i64 0,.int .i64 0,.int .i64 0,.int .i64 0] 162)).alloc (.cells #[.int .i64 0,.int .i64 0,.bool false,.bool false,.bool false,.bool false,.bool false,.bool false,.bool false,.int .i64 0,.int .i64 0,.int .i64 0,.int .i64 0,.int .i64 0] 162):=⟨_,rfl⟩;rw[<- hX];have hB:Below w.heap.size w X:=by rw[hX];exact ((zr _ _).alloc (zq _) _).alloc (by simp) _
 have hZ:w.heap.size+2=X.heap.size:=by rw[hX];simp
 have gX:RL X w.heap.size (rv 0 0 [] 0 0 0 0 0):=by
  rw[hX];refine⟨c1L ?_ ?_ ?_ ?_ ?_ ?_ ?_ ?_ ?_ ?_ ?_ ?_ ?_ ?_,fun j=>?_⟩ <;> simp[rv,isd]
 have lX:RL X (w.heap.size+1) (rv 0 0 [] 0 0 0 0 0):=by
  rw[hX];refine⟨c1L ?_ ?_ ?_ ?_ ?_ ?_ ?_ ?_ ?_ ?_ ?_ ?_ ?_ ?_,fun j=>?_⟩ <;> simp[rv,isd]
 clear hX;have eX:=(a0d HE).later hB;have hs10:=(a0d HE).size;have kX:=Kept.of_below (R:=R) hB;have hPR:w.heap.size+1≠R:=by omega
 have hPA:0<ws.length->w.heap.size+1≠A:=fun hq=>by have:=hAl hq;omega
 have hGR:w.heap.size≠R:=by omega
 have hGA:0<ws.length->w.heap.size≠A:=fun hq=>by have:=hAl hq;omega
 obtain⟨P,hP⟩:∃ P,P=w.heap.size+1:=⟨_,rfl⟩;rw[<- hP] at lX hPR hPA ⊢;obtain⟨G,hG⟩:∃ G,G=w.heap.size:=⟨_,rfl⟩;rw[<- hG] at gX hGR hGA ⊢;have hGP:G≠P:=by omega
 have hP1:w.heap.size<=P:=by omega
 have hG1:w.heap.size<=G:=by omega
 have hP10:10<=P:=by omega
 clear hP hG;refine (b9F R A P ws st X (h.of_below hB) eX hR hP10 hPR hPA lX).mono ?_;rintro e w1 ⟨pc,ev,acc,s,rfl,hp,h1,l1,k1⟩;have g1:=gX.kept2 k1 hGR hGP;have kt:=a4B.one kX k1 hP1;have E1:=hide ((a0d HE).kept kt hR);have HPA:=hide hp;clear gX lX k1 eX hp h
 go_wp2_with fail
 refine (b1F R A ws _ _ a1t w1 h1).mono ?_;rintro e w2 ⟨rfl,h2',k2⟩;have h2:RS w2 R A ws (a0M ws [a1s a1t] s).1 (a0M ws [a1s a1t] s).2:=h2';have l2:=l1.kept k2 hPR;have g2:=g1.kept k2 hGR;have kt2:=kt.trans k2;have E2:=hide ((a0d E1).kept k2 hR);clear h1 h2' l1 g1 kt k2 E1
 go_wp2_with fail
 refine (a7W R A ws _ _ w2 h2 (a0d E2)).mono ?_;rintro e w3 ⟨rfl,h3',k3⟩;have h3:RS w3 R A ws (a0M ws [a1s a1t,Txt.a2y] s).1 (a0M ws [a1s a1t,Txt.a2y] s).2:=h3';have l3:=l2.kept k3 hPR;have g3:=g2.kept k3 hGR;have kt3:=kt2.trans k3;have E3:=hide ((a0d E2).kept k3 hR);clear h2 h3' l2 g2 kt2 k3 E2;have p3:=l3.c 9 (by omega);have pf3:=l3.f;have h4:=h3.other (b:=P) (o:=9) (v:=.int .i64 (a0v ws (a0M ws [a1s a1t] s) Txt.a2y b0a)) hPR hPA;have l4:=c4Q l3 (a0v ws (a0M ws [a1s a1t] s) Txt.a2y b0a);have g4:=g3.other (b:=P) (o:=9) (x:=.int .i64 (a0v ws (a0M ws [a1s a1t] s) Txt.a2y b0a)) hGP.symm;have kt4:=kt3.setNew (b:=P) (o:=9) hP1 (.int .i64 (a0v ws (a0M ws [a1s a1t] s) Txt.a2y b0a));have E4:=hide ((a0d HE).kept kt4 hR)
 go_wp2_with fail
 refine (b1F R A ws _ _ atW _ h4).mono ?_;rintro e w5 ⟨rfl,h5',k5⟩;have h5:RS w5 R A ws (a0M ws [a1s a1t,Txt.a2y,a1s atW] s).1 (a0M ws [a1s a1t,Txt.a2y,a1s atW] s).2:=h5';have l5:=l4.kept k5 hPR;have g5:=g4.kept k5 hGR;have kt5:=kt4.trans k5;have E5:=hide ((a0d E4).kept k5 hR);clear h4 h5' l4 g4 kt4 k5 E4
 go_wp2_with fail
 refine (b0c R A ws _ _ w5 h5).mono ?_;rintro e w6 ⟨rfl,h6',k6⟩;have h6:RS w6 R A ws (a0M ws [a1s a1t,Txt.a2y,a1s atW,Txt.a3a] s).1 (a0M ws [a1s a1t,Txt.a2y,a1s atW,Txt.a3a] s).2:=h6';have l6:=l5.kept k6 hPR;have g6:=g5.kept k6 hGR;have kt6:=kt5.trans k6;have E6:=hide ((a0d E5).kept k6 hR);clear h5 h6' l5 g5 kt5 k6 E5;have p6:=l6.c 10 (by omega);have pf6:=l6.f;have h7:=h6.other (b:=P) (o:=10) (v:=.int .i64 (a0v ws (a0M ws [a1s a1t,Txt.a2y,a1s atW] s) Txt.a3a Txt.a6J)) hPR hPA;have l7:=c2u l6 (a0v ws (a0M ws [a1s a1t,Txt.a2y,a1s atW] s) Txt.a3a Txt.a6J);have g7:=g6.other (b:=P) (o:=10) (x:=.int .i64 (a0v ws (a0M ws [a1s a1t,Txt.a2y,a1s atW] s) Txt.a3a Txt.a6J)) hGP.symm;have kt7:=kt6.setNew (b:=P) (o:=10) hP1 (.int .i64 (a0v ws (a0M ws [a1s a1t,Txt.a2y,a1s atW] s) Txt.a3a Txt.a6J));have E7:=hide ((a0d HE).kept kt7 hR)
 go_wp2_with fail
 refine (b1F R A ws _ _ b3z _ h7).mono ?_;rintro e w8 ⟨rfl,h8',k8⟩;have h8:RS w8 R A ws (a0M ws [a1s a1t,Txt.a2y,a1s atW,Txt.a3a,a1s b3z] s).1 (a0M ws [a1s a1t,Txt.a2y,a1s atW,Txt.a3a,a1s b3z] s).2:=h8';have l8:=l7.kept k8 hPR;have g8:=g7.kept k8 hGR;have kt8:=kt7.trans k8;have E8:=hide ((a0d E7).kept k8 hR);clear h7 h8' l7 g7 kt7 k8 E7
 go_wp2_with fail
 refine (a2S R A ws _ _ w8 h8).mono ?_;rintro e w9 ⟨rfl,h9',k9⟩;have h9:RS w9 R A ws (a0M ws [a1s a1t,Txt.a2y,a1s atW,Txt.a3a,a1s b3z,miB] s).1 (a0M ws [a1s a1t,Txt.a2y,a1s atW,Txt.a3a,a1s b3z,miB] s).2:=h9';have l9:=l8.kept k9 hPR;have g9:=g8.kept k9 hGR;have kt9:=kt8.trans k9;have E9:=hide ((a0d E8).kept k9 hR);clear h8 h9' l8 g8 kt8 k9 E8;have p9:=l9.c 11 (by omega);have pf9:=l9.f;have h10:=h9.other (b:=P) (o:=11) (v:=.int .i64 (a0v ws (a0M ws [a1s a1t,Txt.a2y,a1s atW,Txt.a3a,a1s b3z] s) miB nvF)) hPR hPA;have l10:=c2t l9 (a0v ws (a0M ws [a1s a1t,Txt.a2y,a1s atW,Txt.a3a,a1s b3z] s) miB nvF);have g10:=g9.other (b:=P) (o:=11) (x:=.int .i64 (a0v ws (a0M ws [a1s a1t,Txt.a2y,a1s atW,Txt.a3a,a1s b3z] s) miB nvF)) hGP.symm;have kt10:=kt9.setNew (b:=P) (o:=11) hP1 (.int .i64 (a0v ws (a0M ws [a1s a1t,Txt.a2y,a1s atW,Txt.a3a,a1s b3z] s) miB nvF));have E10:=hide ((a0d HE).kept kt10 hR)
 go_wp2_with fail
 refine (c2x R A P ws (c4Y ws s) _ pc ev acc _ _ _ h10 (a0d E10) hR hPR hPA l10).mono ?_;rintro e w20 ⟨ti,un,s',rfl,hen,h20,l20,k20⟩;have g20:=g10.kept2 k20 hGR hGP;have kt20:=a4B.one kt10 k20 hP1;have HEN:=hide hen;clear h10 l10 g10 kt10 k20 E10 hen;obtain⟨fr,hfr⟩:∃ fr,fr=a0v ws (a0M ws [a1s a1t] s) Txt.a2y b0a:=⟨_,rfl⟩;obtain⟨mn,hmn⟩:∃ mn,mn=a0v ws (a0M ws [a1s a1t,Txt.a2y,a1s atW] s) Txt.a3a Txt.a6J:=⟨_,rfl⟩;obtain⟨mi,hmi⟩:∃ mi,mi=a0v ws (a0M ws [a1s a1t,Txt.a2y,a1s atW,Txt.a3a,a1s b3z] s) miB nvF:=⟨_,rfl⟩;rw[<- hfr,<- hmn,<- hmi] at l20
 have HRU:Hid (b0m ws st pc ev acc fr mn mi ti un s'):=by
  show b0m ws st pc ev acc fr mn mi ti un s';rw[hfr,hmn,hmi];exact .mk pc ev acc s ti un s' HPA.out HEN.out
 clear hfr hmn hmi HPA HEN;have q0:w20.cell? ⟨P,0,none⟩=some (.int .i64 pc):=l20.c 0 (by omega);have q1:w20.cell? ⟨P,1,none⟩=some (.int .i64 ev):=l20.c 1 (by omega);have q2:w20.cell? ⟨P,2,none⟩=some (.bool (isd acc 0)):=l20.c 2 (by omega);have q3:w20.cell? ⟨P,3,none⟩=some (.bool (isd acc 1)):=l20.c 3 (by omega);have q4:w20.cell? ⟨P,4,none⟩=some (.bool (isd acc 2)):=l20.c 4 (by omega);have q5:w20.cell? ⟨P,5,none⟩=some (.bool (isd acc 3)):=l20.c 5 (by omega);have q6:w20.cell? ⟨P,6,none⟩=some (.bool (isd acc 4)):=l20.c 6 (by omega);have q7:w20.cell? ⟨P,7,none⟩=some (.bool (isd acc 5)):=l20.c 7 (by omega);have q8:w20.cell? ⟨P,8,none⟩=some (.bool (isd acc 6)):=l20.c 8 (by omega);have q9:w20.cell? ⟨P,9,none⟩=some (.int .i64 fr):=l20.c 9 (by omega);have q10:w20.cell? ⟨P,10,none⟩=some (.int .i64 mn):=l20.c 10 (by omega);have q11:w20.cell? ⟨P,11,none⟩=some (.int .i64 mi):=l20.c 11 (by omega);have q12:w20.cell? ⟨P,12,none⟩=some (.int .i64 ti):=l20.c 12 (by omega);have q13:w20.cell? ⟨P,13,none⟩=some (.int .i64 un):=l20.c 13 (by omega);have r0:w20.cell? ⟨G,0,none⟩=some (.int .i64 0):=g20.c 0 (by omega);have r1:w20.cell? ⟨G,1,none⟩=some (.int .i64 0):=g20.c 1 (by omega);have r2:w20.cell? ⟨G,2,none⟩=some (.bool false):=g20.c 2 (by omega);have r3:w20.cell? ⟨G,3,none⟩=some (.bool false):=g20.c 3 (by omega);have r4:w20.cell? ⟨G,4,none⟩=some (.bool false):=g20.c 4 (by omega);have r5:w20.cell? ⟨G,5,none⟩=some (.bool false):=g20.c 5 (by omega);have r6:w20.cell? ⟨G,6,none⟩=some (.bool false):=g20.c 6 (by omega);have r7:w20.cell? ⟨G,7,none⟩=some (.bool false):=g20.c 7 (by omega);have r8:w20.cell? ⟨G,8,none⟩=some (.bool false):=g20.c 8 (by omega);have r9:w20.cell? ⟨G,9,none⟩=some (.int .i64 0):=g20.c 9 (by omega);have r10:w20.cell? ⟨G,10,none⟩=some (.int .i64 0):=g20.c 10 (by omega);have r11:w20.cell? ⟨G,11,none⟩=some (.int .i64 0):=g20.c 11 (by omega);have r12:w20.cell? ⟨G,12,none⟩=some (.int .i64 0):=g20.c 12 (by omega);have r13:w20.cell? ⟨G,13,none⟩=some (.int .i64 0):=g20.c 13 (by omega);have rf:=g20.f;have H20:=hide h20;clear h20 l20 g20;go_wp2;refine bodyPost_ret (v:=b9E pc ev acc fr mn mi ti un) (by simp[results,Tryz.results87,go_sem,b9E,r0,r1,r2,r3,r4,r5,r6,r7,r8,r9,r10,r11,r12,r13]) rfl ⟨pc,ev,acc,fr,mn,mi,ti,un,s',rfl,HRU.out,?_,?_⟩
 ·exact (((((((((((((((a0d H20).other hGR hGA).other hGR hGA).other hGR hGA).other hGR hGA).other hGR hGA).other hGR hGA).other hGR hGA).other hGR hGA).other hGR hGA).other hGR hGA).other hGR hGA).other hGR hGA).other hGR hGA).other hGR hGA)
 ·exact ((((((((((((((kt20.setNew hG1 _).setNew hG1 _).setNew hG1 _).setNew hG1 _).setNew hG1 _).setNew hG1 _).setNew hG1 _).setNew hG1 _).setNew hG1 _).setNew hG1 _).setNew hG1 _).setNew hG1 _).setNew hG1 _).setNew hG1 _)
def a3F:ByteArray:=⟨#[116,104,105,110,103]⟩
def a9P:ByteArray:=⟨#[98,111,111,107]⟩
def b5f:ByteArray:=⟨#[104,111,108,100]⟩
def b4k:ByteArray:=⟨#[119,97,105,116]⟩
def a7l:ByteArray:=⟨#[115,101,114,105,101,115]⟩
def a4z:ByteArray:=⟨#[99,111,110,102,105,114,109]⟩
def a6m:ByteArray:=⟨#[99,97,110,99,101,108]⟩
def a5Q:ByteArray:=⟨#[108,105,115,116]⟩
def a5q:ByteArray:=⟨#[119,97,105,116,105,110,103]⟩
def a9a:ByteArray:=⟨#[112,101,97,107]⟩
def b5h:ByteArray:=⟨#[102,105,110,100]⟩
def a7M:ByteArray:=⟨#[101,120,112,97,110,100]⟩
def b4n:ByteArray:=⟨#[116,105,99,107]⟩
def b1c:ByteArray:=⟨#[99,108,111,99,107]⟩
def idB(s:ByteArray):Bool:=Txt.isNum s.data.toList
inductive a2H (ws:List ByteArray):Value->Nat × Bool->Prop where
 |a0k (h:isB ws 0 false a3F=true):a2H ws (.iface 149 (.agg #[.string (a2F ws (1,false)),.int .i64 (a0v ws (a0M ws [nmB] (1,false)) unB nvF)])) (a0M ws [nmB,unB] (1,false))
 |book (h:isB ws 0 false a9P=true):a2H ws (.iface 154 (.agg #[.string (a2F ws (1,false)),.int .i64 (a0v ws (a0M ws [nmB] (1,false)) unB nvF),.int .i64 (a0v ws (a0M ws [nmB,unB] (1,false)) a0n a1J),.int .i64 (a0v ws (a0M ws [nmB,unB,a0n] (1,false)) a0n a1J)])) (a0M ws [nmB,unB,a0n,a0n] (1,false))
 |hold (h:isB ws 0 false b5f=true):a2H ws (.iface 156 (.agg #[.string (a2F ws (1,false)),.int .i64 (a0v ws (a0M ws [nmB] (1,false)) unB nvF),.int .i64 (a0v ws (a0M ws [nmB,unB] (1,false)) a0n a1J),.int .i64 (a0v ws (a0M ws [nmB,unB,a0n] (1,false)) a0n a1J),.int .i64 (a0v ws (a0M ws [nmB,unB,a0n,a0n] (1,false)) miB nvF)])) (a0M ws [nmB,unB,a0n,a0n,miB] (1,false))
 |wait (h:isB ws 0 false b4k=true):a2H ws (.iface 157 (.agg #[.string (a2F ws (1,false)),.int .i64 (a0v ws (a0M ws [nmB] (1,false)) unB nvF),.int .i64 (a0v ws (a0M ws [nmB,unB] (1,false)) a0n a1J),.int .i64 (a0v ws (a0M ws [nmB,unB,a0n] (1,false)) a0n a1J),.int .i64 (a0v ws (a0M ws [nmB,unB,a0n,a0n] (1,false)) miB nvF)])) (a0M ws [nmB,unB,a0n,a0n,miB] (1,false))
 |series (h:isB ws 0 false a7l=true) (pc ev:Int) (acc:List Int) (fr mn mi ti un:Int) (s:Nat × Bool) (hr:b0m ws (a0M ws [nmB,unB] (1,false)) pc ev acc fr mn mi ti un s):a2H ws (.iface 165 (.agg #[.string (a2F ws (1,false)),.int .i64 (a0v ws (a0M ws [nmB] (1,false)) unB nvF),.int .i64 pc,.int .i64 ev,.bool (isd acc 0),.bool (isd acc 1),.bool (isd acc 2),.bool (isd acc 3),.bool (isd acc 4),.bool (isd acc 5),.bool (isd acc 6),.int .i64 fr,.int .i64 mn,.int .i64 mi,.int .i64 ti,.int .i64 un])) s
 |confirm (h:isB ws 0 false a4z=true):a2H ws (.iface 167 (.agg #[.int .i64 (a0v ws (1,false) idB nvF)])) (a0M ws [idB] (1,false))
 |cancel (h:isB ws 0 false a6m=true):a2H ws (.iface 168 (.agg #[.int .i64 (a0v ws (1,false) idB nvF)])) (a0M ws [idB] (1,false))
 |list0 (h:isB ws 0 false a5Q=true) (hm:a1b ws.length (a0M ws [nmB] (1,false)).1 (a0M ws [nmB] (1,false)).2=false):a2H ws (.iface 170 (.agg #[.string (a2F ws (1,false)),.bool false,.int .i64 0,.int .i64 0])) (a0M ws [nmB] (1,false))
 |list1 (h:isB ws 0 false a5Q=true) (hm:a1b ws.length (a0M ws [nmB] (1,false)).1 (a0M ws [nmB] (1,false)).2=true):a2H ws (.iface 170 (.agg #[.string (a2F ws (1,false)),.bool true,.int .i64 (a0v ws (a0M ws [nmB] (1,false)) a0n a1J),.int .i64 (a0v ws (a0M ws [nmB,a0n] (1,false)) a0n a1J)])) (a0M ws [nmB,a0n,a0n] (1,false))
 |waiting (h:isB ws 0 false a5q=true):a2H ws (.iface 173 (.agg #[])) (1,false)
 |peak (h:isB ws 0 false a9a=true):a2H ws (.iface 176 (.agg #[.string (a2F ws (1,false)),.int .i64 (a0v ws (a0M ws [nmB] (1,false)) a0n a1J),.int .i64 (a0v ws (a0M ws [nmB,a0n] (1,false)) a0n a1J)])) (a0M ws [nmB,a0n,a0n] (1,false))
 |find (h:isB ws 0 false b5h=true):a2H ws (.iface 178 (.agg #[.string (a2F ws (1,false)),.int .i64 (a0v ws (a0M ws [nmB] (1,false)) unB nvF),.int .i64 (a0v ws (a0M ws [nmB,unB] (1,false)) miB nvF),.int .i64 (a0v ws (a0M ws [nmB,unB,miB] (1,false)) a0n a1J),.int .i64 (a0v ws (a0M ws [nmB,unB,miB,a0n] (1,false)) a0n a1J)])) (a0M ws [nmB,unB,miB,a0n,a0n] (1,false))
 |expand (h:isB ws 0 false a7M=true) (pc ev:Int) (acc:List Int) (fr mn mi ti un:Int) (s:Nat × Bool) (hr:b0m ws (1,false) pc ev acc fr mn mi ti un s):a2H ws (.iface 180 (.agg #[.int .i64 pc,.int .i64 ev,.bool (isd acc 0),.bool (isd acc 1),.bool (isd acc 2),.bool (isd acc 3),.bool (isd acc 4),.bool (isd acc 5),.bool (isd acc 6),.int .i64 fr,.int .i64 mn,.int .i64 mi,.int .i64 ti,.int .i64 un])) s
 |tick (h:isB ws 0 false b4n=true):a2H ws (.iface 182 (.agg #[.int .i64 (a0v ws (1,false) miB nvF)])) (a0M ws [miB] (1,false))
 |clock (h:isB ws 0 false b1c=true):a2H ws (.iface 183 (.agg #[])) (1,false)
 |none (h0:isB ws 0 false a3F=false) (h1:isB ws 0 false a9P=false) (h2:isB ws 0 false b5f=false) (h3:isB ws 0 false b4k=false) (h4:isB ws 0 false a7l=false) (h5:isB ws 0 false a4z=false) (h6:isB ws 0 false a6m=false) (h7:isB ws 0 false a5Q=false) (h8:isB ws 0 false a5q=false) (h9:isB ws 0 false a9a=false) (h10:isB ws 0 false b5h=false) (h11:isB ws 0 false a7M=false) (h12:isB ws 0 false b4n=false) (h13:isB ws 0 false b1c=false):a2H ws .nilIface (0,true)
theorem f1j(R A:Nat)(ws:List ByteArray)(w:World)(h:RS w R A ws 0 false)(he:Env w)(hR:10<=R)(hP:isB ws 0 false a7l=true\/isB ws 0 false a7M=true->g3M ws):
  Calls Tryz.prog 62 #[.pointer (some ⟨R,0,none⟩)] w fun e w' =>
   ∃ (v:Value) (s:Nat × Bool),e=.returned v/\a2H ws v s/\RS w' R A ws s.1 s.2/\Kept R w w':=by
 have HE:=hide he;have HPP:=hide hP;clear he hP;have k0:=Kept.refl R w;have h0:=h;clear h
 go_enter Tryz.func62,Tryz.ntmps62
 go_wp2_with fail
 refine (a2n R A ws 0 false a3F w h0).mono ?_;rintro e w1 ⟨rfl,h1,kq⟩;have k1:=k0.trans kq;clear kq k0 h0;rcases Bool.eq_false_or_eq_true (isB ws 0 false a3F) with hb0|hb0
 ·rw[hb0,if_pos rfl] at h1;have E1:=hide ((a0d HE).kept k1 hR)
  go_wp2_with fail
  refine (a3v R A ws _ _ w1 h1).mono ?_;rintro e w1a ⟨rfl,h1a,kq⟩;have k1a:=k1.trans kq;have E1a:=hide ((a0d E1).kept kq hR);clear kq k1 h1 E1
  go_wp2_with fail
  refine (a5v R A ws _ _ w1a h1a).mono ?_;rintro e w1b ⟨rfl,h1b,kq⟩;have k1b:=k1a.trans kq;have E1b:=hide ((a0d E1a).kept kq hR);clear kq k1a h1a E1a;have HK:=hide k1b;have HH:=hide h1b;go_wp2;go_ret;exact⟨_,(a0M ws [nmB,unB] (1,false)),rfl,.a0k hb0,HH.out,HK.out⟩
 rw[hb0] at h1 ⊢
 go_wp2_with fail
 refine (a2n R A ws 0 false a9P w1 h1).mono ?_;rintro e w2 ⟨rfl,h2,kq⟩;have k2:=k1.trans kq;clear kq k1 h1;rcases Bool.eq_false_or_eq_true (isB ws 0 false a9P) with hb1|hb1
 ·rw[hb1,if_pos rfl] at h2;have E2:=hide ((a0d HE).kept k2 hR)
  go_wp2_with fail
  refine (a7w R A ws (1,false) w2 h2 (a0d E2) hR).mono ?_;rintro e w2a ⟨rfl,h2a,kq⟩;have k2a:=k2.trans kq;have E2a:=hide ((a0d E2).kept kq hR);clear kq k2 h2 E2;have HK:=hide k2a;have HH:=hide h2a;go_wp2;go_ret;exact⟨_,(a0M ws [nmB,unB,a0n,a0n] (1,false)),rfl,.book hb1,HH.out,HK.out⟩
 rw[hb1] at h2 ⊢
 go_wp2_with fail
 refine (a2n R A ws 0 false b5f w2 h2).mono ?_;rintro e w3 ⟨rfl,h3,kq⟩;have k3:=k2.trans kq;clear kq k2 h2;rcases Bool.eq_false_or_eq_true (isB ws 0 false b5f) with hb2|hb2
 ·rw[hb2,if_pos rfl] at h3;have E3:=hide ((a0d HE).kept k3 hR)
  go_wp2_with fail
  refine (a7w R A ws (1,false) w3 h3 (a0d E3) hR).mono ?_;rintro e w3a ⟨rfl,h3a,kq⟩;have k3a:=k3.trans kq;have E3a:=hide ((a0d E3).kept kq hR);clear kq k3 h3 E3
  go_wp2_with fail
  refine (a2S R A ws _ _ w3a h3a).mono ?_;rintro e w3b ⟨rfl,h3b,kq⟩;have k3b:=k3a.trans kq;have E3b:=hide ((a0d E3a).kept kq hR);clear kq k3a h3a E3a;have HK:=hide k3b;have HH:=hide h3b;go_wp2;go_ret;exact⟨_,(a0M ws [nmB,unB,a0n,a0n,miB] (1,false)),rfl,.hold hb2,HH.out,HK.out⟩
 rw[hb2] at h3 ⊢
 go_wp2_with fail
 refine (a2n R A ws 0 false b4k w3 h3).mono ?_;rintro e w4 ⟨rfl,h4,kq⟩;have k4:=k3.trans kq;clear kq k3 h3;rcases Bool.eq_false_or_eq_true (isB ws 0 false b4k) with hb3|hb3
 ·rw[hb3,if_pos rfl] at h4;have E4:=hide ((a0d HE).kept k4 hR)
  go_wp2_with fail
  refine (a7w R A ws (1,false) w4 h4 (a0d E4) hR).mono ?_;rintro e w4a ⟨rfl,h4a,kq⟩;have k4a:=k4.trans kq;have E4a:=hide ((a0d E4).kept kq hR);clear kq k4 h4 E4
  go_wp2_with fail
  refine (a2S R A ws _ _ w4a h4a).mono ?_;rintro e w4b ⟨rfl,h4b,kq⟩;have k4b:=k4a.trans kq;have E4b:=hide ((a0d E4a).kept kq hR);clear kq k4a h4a E4a;have HK:=hide k4b;have HH:=hide h4b;go_wp2;go_ret;exact⟨_,(a0M ws [nmB,unB,a0n,a0n,miB] (1,false)),rfl,.wait hb3,HH.out,HK.out⟩
 rw[hb3] at h4 ⊢
 go_wp2_with fail
 refine (a2n R A ws 0 false a7l w4 h4).mono ?_;rintro e w5 ⟨rfl,h5,kq⟩;have k5:=k4.trans kq;clear kq k4 h4;rcases Bool.eq_false_or_eq_true (isB ws 0 false a7l) with hb4|hb4
 ·rw[hb4,if_pos rfl] at h5;have E5:=hide ((a0d HE).kept k5 hR)
  go_wp2_with fail
  refine (a3v R A ws _ _ w5 h5).mono ?_;rintro e w5a ⟨rfl,h5a,kq⟩;have k5a:=k5.trans kq;have E5a:=hide ((a0d E5).kept kq hR);clear kq k5 h5 E5
  go_wp2_with fail
  refine (a5v R A ws _ _ w5a h5a).mono ?_;rintro e w5b ⟨rfl,h5b,kq⟩;have k5b:=k5a.trans kq;have E5b:=hide ((a0d E5a).kept kq hR);clear kq k5a h5a E5a
  go_wp2_with fail
  refine (a0d HPP (.inl hb4) R A (a0M ws [nmB,unB] (1,false)) w5b h5b (a0d E5b) hR).mono ?_;rintro e w5c ⟨pc,ev,acc,fr,mn,mi,ti,un,s,rfl,hr,h5c,kq⟩;have HR:=hide hr;clear hr;simp only[b9E];have k5c:=k5b.trans kq;have E5c:=hide ((a0d E5b).kept kq hR);clear kq k5b h5b E5b;have HK:=hide k5c;have HH:=hide h5c;go_wp2;go_ret;exact⟨_,s,rfl,.series hb4 pc ev acc fr mn mi ti un s HR.out,HH.out,HK.out⟩
 rw[hb4] at h5 ⊢
 go_wp2_with fail
 refine (a2n R A ws 0 false a4z w5 h5).mono ?_;rintro e w6 ⟨rfl,h6,kq⟩;have k6:=k5.trans kq;clear kq k5 h5;rcases Bool.eq_false_or_eq_true (isB ws 0 false a4z) with hb5|hb5
 ·rw[hb5,if_pos rfl] at h6;have E6:=hide ((a0d HE).kept k6 hR)
  go_wp2_with fail
  refine (b9J R A ws _ _ w6 h6).mono ?_;rintro e w6a ⟨rfl,h6a,kq⟩;have k6a:=k6.trans kq;have E6a:=hide ((a0d E6).kept kq hR);clear kq k6 h6 E6;have HK:=hide k6a;have HH:=hide h6a;go_wp2;go_ret;exact⟨_,(a0M ws [idB] (1,false)),rfl,.confirm hb5,HH.out,HK.out⟩
 rw[hb5] at h6 ⊢
 go_wp2_with fail
 refine (a2n R A ws 0 false a6m w6 h6).mono ?_;rintro e w7 ⟨rfl,h7,kq⟩;have k7:=k6.trans kq;clear kq k6 h6;rcases Bool.eq_false_or_eq_true (isB ws 0 false a6m) with hb6|hb6
 ·rw[hb6,if_pos rfl] at h7;have E7:=hide ((a0d HE).kept k7 hR)
  go_wp2_with fail
  refine (b9J R A ws _ _ w7 h7).mono ?_;rintro e w7a ⟨rfl,h7a,kq⟩;have k7a:=k7.trans kq;have E7a:=hide ((a0d E7).kept kq hR);clear kq k7 h7 E7;have HK:=hide k7a;have HH:=hide h7a;go_wp2;go_ret;exact⟨_,(a0M ws [idB] (1,false)),rfl,.cancel hb6,HH.out,HK.out⟩
 rw[hb6] at h7 ⊢
 go_wp2_with fail
 refine (a2n R A ws 0 false a5Q w7 h7).mono ?_;rintro e w8 ⟨rfl,h8,kq⟩;have k8:=k7.trans kq;clear kq k7 h7;rcases Bool.eq_false_or_eq_true (isB ws 0 false a5Q) with hb7|hb7
 ·rw[hb7,if_pos rfl] at h8;have E8:=hide ((a0d HE).kept k8 hR)
  cases hm:a1b ws.length (a0M ws [nmB] (1,false)).1 (a0M ws [nmB] (1,false)).2
  ·go_wp2_with fail
   refine (b9H R A ws (1,false) w8 h8 hm).mono ?_;rintro e wz ⟨rfl,hz,kz⟩;have HK:=hide (k8.trans kz);have HH:=hide hz;have HM:=hide hm;clear hz kz hm k8 h8;go_wp2;go_ret;exact⟨_,(a0M ws [nmB] (1,false)),rfl,.list0 hb7 HM.out,HH.out,HK.out⟩
  ·go_wp2_with fail
   refine (b7W R A ws (1,false) w8 h8 (a0d E8) hR hm).mono ?_;rintro e wz ⟨rfl,hz,kz⟩;have HK:=hide (k8.trans kz);have HH:=hide hz;have HM:=hide hm;clear hz kz hm k8 h8;go_wp2;go_ret;exact⟨_,(a0M ws [nmB,a0n,a0n] (1,false)),rfl,.list1 hb7 HM.out,HH.out,HK.out⟩
 rw[hb7] at h8 ⊢
 go_wp2_with fail
 refine (a2n R A ws 0 false a5q w8 h8).mono ?_;rintro e w9 ⟨rfl,h9,kq⟩;have k9:=k8.trans kq;clear kq k8 h8;rcases Bool.eq_false_or_eq_true (isB ws 0 false a5q) with hb8|hb8
 ·rw[hb8,if_pos rfl] at h9;have E9:=hide ((a0d HE).kept k9 hR);have HK:=hide k9;have HH:=hide h9;go_wp2;go_ret;exact⟨_,(1,false),rfl,.waiting hb8,HH.out,HK.out⟩
 rw[hb8] at h9 ⊢
 go_wp2_with fail
 refine (a2n R A ws 0 false a9a w9 h9).mono ?_;rintro e w10 ⟨rfl,h10,kq⟩;have k10:=k9.trans kq;clear kq k9 h9;rcases Bool.eq_false_or_eq_true (isB ws 0 false a9a) with hb9|hb9
 ·rw[hb9,if_pos rfl] at h10;have E10:=hide ((a0d HE).kept k10 hR)
  go_wp2_with fail
  refine (a3v R A ws _ _ w10 h10).mono ?_;rintro e w10a ⟨rfl,h10a,kq⟩;have k10a:=k10.trans kq;have E10a:=hide ((a0d E10).kept kq hR);clear kq k10 h10 E10
  go_wp2_with fail
  refine (a6F R A ws _ _ w10a h10a (a0d E10a) hR).mono ?_;rintro e w10b ⟨rfl,h10b,kq⟩;have k10b:=k10a.trans kq;have E10b:=hide ((a0d E10a).kept kq hR);clear kq k10a h10a E10a;have HK:=hide k10b;have HH:=hide h10b;go_wp2;go_ret;exact⟨_,(a0M ws [nmB,a0n,a0n] (1,false)),rfl,.peak hb9,HH.out,HK.out⟩
 rw[hb9] at h10 ⊢
 go_wp2_with fail
 refine (a2n R A ws 0 false b5h w10 h10).mono ?_;rintro e w11 ⟨rfl,h11,kq⟩;have k11:=k10.trans kq;clear kq k10 h10;rcases Bool.eq_false_or_eq_true (isB ws 0 false b5h) with hb10|hb10
 ·rw[hb10,if_pos rfl] at h11;have E11:=hide ((a0d HE).kept k11 hR)
  go_wp2_with fail
  refine (a3v R A ws _ _ w11 h11).mono ?_;rintro e w11a ⟨rfl,h11a,kq⟩;have k11a:=k11.trans kq;have E11a:=hide ((a0d E11).kept kq hR);clear kq k11 h11 E11
  go_wp2_with fail
  refine (a5v R A ws _ _ w11a h11a).mono ?_;rintro e w11b ⟨rfl,h11b,kq⟩;have k11b:=k11a.trans kq;have E11b:=hide ((a0d E11a).kept kq hR);clear kq k11a h11a E11a
  go_wp2_with fail
  refine (a2S R A ws _ _ w11b h11b).mono ?_;rintro e w11c ⟨rfl,h11c,kq⟩;have k11c:=k11b.trans kq;have E11c:=hide ((a0d E11b).kept kq hR);clear kq k11b h11b E11b
  go_wp2_with fail
  refine (a6F R A ws _ _ w11c h11c (a0d E11c) hR).mono ?_;rintro e w11d ⟨rfl,h11d,kq⟩;have k11d:=k11c.trans kq;have E11d:=hide ((a0d E11c).kept kq hR);clear kq k11c h11c E11c;have HK:=hide k11d;have HH:=hide h11d;go_wp2;go_ret;exact⟨_,(a0M ws [nmB,unB,miB,a0n,a0n] (1,false)),rfl,.find hb10,HH.out,HK.out⟩
 rw[hb10] at h11 ⊢
 go_wp2_with fail
 refine (a2n R A ws 0 false a7M w11 h11).mono ?_;rintro e w12 ⟨rfl,h12,kq⟩;have k12:=k11.trans kq;clear kq k11 h11;rcases Bool.eq_false_or_eq_true (isB ws 0 false a7M) with hb11|hb11
 ·rw[hb11,if_pos rfl] at h12;have E12:=hide ((a0d HE).kept k12 hR)
  go_wp2_with fail
  refine (a0d HPP (.inr hb11) R A (1,false) w12 h12 (a0d E12) hR).mono ?_;rintro e w12a ⟨pc,ev,acc,fr,mn,mi,ti,un,s,rfl,hr,h12a,kq⟩;have HR:=hide hr;clear hr;simp only[b9E];have k12a:=k12.trans kq;have E12a:=hide ((a0d E12).kept kq hR);clear kq k12 h12 E12;have HK:=hide k12a;have HH:=hide h12a;go_wp2;go_ret;exact⟨_,s,rfl,.expand hb11 pc ev acc fr mn mi ti un s HR.out,HH.out,HK.out⟩
 rw[hb11] at h12 ⊢
 go_wp2_with fail
 refine (a2n R A ws 0 false b4n w12 h12).mono ?_;rintro e w13 ⟨rfl,h13,kq⟩;have k13:=k12.trans kq;clear kq k12 h12;rcases Bool.eq_false_or_eq_true (isB ws 0 false b4n) with hb12|hb12
 ·rw[hb12,if_pos rfl] at h13;have E13:=hide ((a0d HE).kept k13 hR)
  go_wp2_with fail
  refine (a2S R A ws _ _ w13 h13).mono ?_;rintro e w13a ⟨rfl,h13a,kq⟩;have k13a:=k13.trans kq;have E13a:=hide ((a0d E13).kept kq hR);clear kq k13 h13 E13;have HK:=hide k13a;have HH:=hide h13a;go_wp2;go_ret;exact⟨_,(a0M ws [miB] (1,false)),rfl,.tick hb12,HH.out,HK.out⟩
 rw[hb12] at h13 ⊢
 go_wp2_with fail
 refine (a2n R A ws 0 false b1c w13 h13).mono ?_;rintro e w14 ⟨rfl,h14,kq⟩;have k14:=k13.trans kq;clear kq k13 h13;rcases Bool.eq_false_or_eq_true (isB ws 0 false b1c) with hb13|hb13
 ·rw[hb13,if_pos rfl] at h14;have E14:=hide ((a0d HE).kept k14 hR);have HK:=hide k14;have HH:=hide h14;go_wp2;go_ret;exact⟨_,(1,false),rfl,.clock hb13,HH.out,HK.out⟩
 rw[hb13] at h14 ⊢;have c2:=h14.c2;have f2:=h14.f2;go_wp2;go_ret;exact⟨_,(0,true),rfl,.none hb0 hb1 hb2 hb3 hb4 hb5 hb6 hb7 hb8 hb9 hb10 hb11 hb12 hb13,h14.bad,k14.setCell _ _⟩
theorem b4i(s:ByteArray):∀ x∈Txt.a1v s,x.size<=s.size:=by
 intro x hx;unfold Txt.a1v at hx;simp only[List.mem_map] at hx;obtain⟨y,_,rfl⟩:=hx;have:(s.extract y.1 y.2).size=min y.2 s.size-y.1:=ByteArray.size_extract ..;omega
inductive a7T (s:ByteArray):Ending->Prop where
 |long (h:160<s.size):a7T s (.returned (.tuple #[.nilIface,.int .i64 1,.int .i64 0]))
 |bad (h:s.size<=160) (v:Value) (st:Nat × Bool) (hl:a2H (Txt.a1v s) v st) (hb:st.2=true\/a1b (Txt.a1v s).length st.1 st.2=true):a7T s (.returned (.tuple #[.nilIface,.int .i64 2,.int .i64 st.1]))
 |e6J (h:s.size<=160) (v:Value) (st:Nat × Bool) (hl:a2H (Txt.a1v s) v st) (h2:st.2=false) (hb:a1b (Txt.a1v s).length st.1 st.2=false):a7T s (.returned (.tuple #[v,.int .i64 0,.int .i64 0]))
theorem b7v(s:ByteArray):∀ k:Nat,k<=s.size->(Txt.b7w s k).length+(if (Txt.a8z s k).size=0 then 0 else 1)<=k
 |0,_=>by
  have:=Txt.b5J s 0;have:=Txt.b7k s 0;rw[if_pos (by omega)];omega
 |k+1,hk=>by
  have ih:=b7v s k (by omega)
  by_cases hb:Txt.a0V s k=32
  ·obtain⟨h1,h2⟩:=Txt.b3O s k (by omega) hb;have e:(if (⟨#[]⟩:ByteArray).size=0 then (0:Nat) else 1)=0:=if_pos rfl;rw[h1,h2,e,List.length_append]
   by_cases hc:(Txt.a8z s k).size=0
   ·rw[if_pos hc] at ih ⊢;simp;omega
   ·rw[if_neg hc] at ih ⊢;simp;omega
  ·obtain⟨_,h2⟩:=Txt.b7l s k hb;rw[h2]
   split at ih <;> split <;> omega
theorem b7C(s:ByteArray):(Txt.a1v s).length<=s.size:=by
 have:=b7v s s.size (zq _);rw[Txt.b2t,List.length_append]
 split <;> rename_i hc <;> simp[hc] at this ⊢ <;> omega
theorem b9Q{base g n cap:Nat}{xs:List ByteArray}(h:w.ownsRow base 9 1 (.slice (some ⟨g,0,none⟩) n cap) n (xs.map Value.string)):g<w.heap.size/\∀ (i:Nat)(hi:i<xs.length),w.cell? ⟨g,i,none⟩=some (.string xs[i]):=by
 rcases h.2 with ⟨h0,_⟩|⟨g',cap',cur,hv,hg,hh,hc,_,hs,ht⟩
 ·cases h0
 ·cases hv
  have hl:g<w.heap.size:=by
   by_cases hl:g<w.heap.size
   ·exact hl
   ·rw[Array.getElem?_eq_none (by omega)] at hh;cases hh
  refine⟨hl,fun i hi=>?_⟩;have h1:=h.1;have hlen:(xs.map Value.string).length=xs.length:=by simp
  have hcur:cur[i]?=some (.string xs[i]):=by
   have hx:(xs.map Value.string)[i]?=some (.string xs[i]):=by simp[hi]
   rw[<- ht,List.getElem?_take,if_pos (by omega)] at hx
   simpa using hx
  simp[World.cell?,hh,hcur]
theorem f3Y(s:ByteArray)(w:World)(he:Env w)(hP:isB (Txt.a1v s) 0 false a7l=true\/isB (Txt.a1v s) 0 false a7M=true->g3M (Txt.a1v s)):
  Calls Tryz.prog 45 #[.string s] w fun e w'=>a7T s e/\Below w.heap.size w w':=by
 have HE:=hide he;have h10:=he.size;clear he
 by_cases hs:s.size<=160
 ·have hs2:(s.size:Int)<=160:=by omega
  go_enter Tryz.func45,Tryz.ntmps45
  go_wp2_with fail
  refine (b9v s w hs).mono ?_;rintro e w1 ⟨A,rfl,hA,ho,hb⟩;obtain⟨hAl,hrow⟩:=b9Q ho;have hwl:=b7C s;have hsm:=b4i s;obtain⟨ws,hws⟩:∃ ws,ws=Txt.a1v s:=⟨_,rfl⟩;have HWS:=hide hws;rw[<- hws] at hrow hwl hsm hP ⊢;have HPP:=hide hP;clear hws ho hP;have HROW:=hide hrow;have HSM:=hide hsm;clear hrow hsm
  go_wp2_with fail
  obtain⟨X,hX⟩:∃ X,X=w1.alloc (.cells #[.slice (some ⟨A,0,none⟩) ws.length ws.length,.int .i64 0,.bool false] 123):=⟨_,rfl⟩;rw[<- hX];have hbX:Below w1.heap.size w1 X:=by rw[hX];exact (zr _ _).alloc (zq _) _
  have hrs:RS X w1.heap.size A ws 0 false:=by
   refine⟨?_,?_,?_,?_,?_,by omega,fun i hi=>cell_later hbX (a0d HROW i hi),by omega,Nat.zero_le _,fun x hx=>Nat.le_trans (a0d HSM x hx) hs⟩ <;> (rw[hX];simp)
  clear hX;have eX:=((a0d HE).later hb).later hbX;have hz1:=hb.size;refine (f1j w1.heap.size A ws X hrs eX (by omega) (a0d HPP)).mono ?_;rintro e w2 ⟨v,st,rfl,hl,h2,k2⟩;have c1:=h2.c1;have c2:=h2.c2;have HL:=hide hl;have hbW:Below w.heap.size w w2:=(hb.trans (hbX.mono hz1)).trans (k2.below hz1 (Nat.le_trans hz1 hbX.size));have hnx:=h2.c6c;clear hl eX hrs hbX;obtain⟨nx,wr⟩:=st;dsimp only at c1 c2 h2 hnx;have hmo:a1b ws.length nx wr=false\/a1b ws.length nx wr=true:=by cases a1b ws.length nx wr <;> simp
  cases wr
  ·rcases hmo with hmo|hmo
   ·have HM:=hide hmo
    go_wp2_with fail
    refine (a0X w1.heap.size A ws nx false w2 h2).mono ?_;rintro e w3 ⟨rfl,n,hw3⟩;have hb3:Below w.heap.size w w3:=by rw[hw3];exact⟨hbW.os,hbW.tape,hbW.output,hbW.size,hbW.block⟩
    clear hw3 h2;rw[hmo];go_wp2;go_ret3;have hws:=HWS.out;subst hws;exact⟨.e6J hs v (nx,false) HL.out rfl HM.out,hb3⟩
   ·have HM:=hide hmo
    go_wp2_with fail
    refine (a0X w1.heap.size A ws nx false w2 h2).mono ?_;rintro e w3 ⟨rfl,n,hw3⟩;have hb3:Below w.heap.size w w3:=by rw[hw3];exact⟨hbW.os,hbW.tape,hbW.output,hbW.size,hbW.block⟩
    have d1:w3.cell? ⟨w1.heap.size,1,none⟩=some (.int .i64 nx):=by rw[hw3];exact c1
    clear hw3 h2 c1 c2;rw[hmo];go_wp2
    go_quiet (fail)
    go_wp2;go_ret3;have hws:=HWS.out;subst hws;exact⟨.bad hs v (nx,false) HL.out (.inr HM.out),⟨hb3.os,hb3.tape,hb3.output,hb3.size,hb3.block⟩⟩
  ·clear h2 hmo;go_wp2
   go_quiet (fail)
   go_wp2;go_ret3;have hws:=HWS.out;subst hws;exact⟨.bad hs v (nx,true) HL.out (.inl rfl),⟨hbW.os,hbW.tape,hbW.output,hbW.size,hbW.block⟩⟩
 ·have hs2:¬ (s.size:Int)<=160:=by omega
  go_enter Tryz.func45,Tryz.ntmps45
  go_wp2;go_ret3;exact⟨.long (by omega),Below.refl _ _⟩
theorem b6h(s:ByteArray)(w:World)(he:Env w):
  Calls Tryz.prog 45 #[.string s] w fun e w'=>a7T s e/\Below w.heap.size w w':=f3Y s w he (fun _ R A st w h he hR=>b2P R A _ st w h he hR)
end Go.Proofs.YtfigmlfdnickmaaGreatDoor
