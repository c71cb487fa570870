import Derived.Test.YtfigmlfdnickmaaGreatDoorL02
import Derived.Deep.RegionHeld3
import Derived.Deep.AppendLies
import Derived.Deep.RegionHeld
set_option maxRecDepth 100000
set_option maxHeartbeats 8000000
variable{wr:Bool}{B:ByteArray->Bool}{ws:List ByteArray}{A R b n nx o:Nat}{v:Go.Value}{w w':Go.World}
namespace Go.Proofs.YtfigmlfdnickmaaGreatDoor
open Go.RowKit
theorem Env.kept(h:Env w)(k:Kept R w w')(hR:10<=R):Env w':=by
 have hb:Below 10 w w':=k.below hR h.size;have hc:∀ (b o:Nat) (v:Value),b<10->w.cell? ⟨b,o,none⟩=some v->w'.cell? ⟨b,o,none⟩=some v:=fun b o v hb' e=>(hb.cell (p:=⟨b,o,none⟩) hb').trans e
 obtain⟨m,hm⟩:=h.c5L;obtain⟨c0,c1,c2,c3,c4,c5,c6,c7,c8,c9,c10,c11⟩:=h.tab;refine⟨⟨hc _ _ _ (by omega) c0,hc _ _ _ (by omega) c1,hc _ _ _ (by omega) c2,hc _ _ _ (by omega) c3,hc _ _ _ (by omega) c4,hc _ _ _ (by omega) c5,hc _ _ _ (by omega) c6,hc _ _ _ (by omega) c7,hc _ _ _ (by omega) c8,hc _ _ _ (by omega) c9,hc _ _ _ (by omega) c10,hc _ _ _ (by omega) c11⟩,⟨m,hc _ _ _ (by omega) hm⟩,?_,Nat.le_trans h.size k.size,hc _ _ _ (by omega) h.mo,hc _ _ _ (by omega) h.tu,hc _ _ _ (by omega) h.we,hc _ _ _ (by omega) h.th,hc _ _ _ (by omega) h.fr,hc _ _ _ (by omega) h.sa,hc _ _ _ (by omega) h.su⟩;have hp:=h.pow;unfold Lib.TabIs World.var? at hp ⊢;simp only[c6q,Option.bind_some] at hp ⊢;rw[hb.block 0 (by omega)];exact hp
def a0K(s:ByteArray)(lo hi:Int):Bool:=Txt.isNum s.data.toList && decide (lo<=Txt.a2f s.data.toList) && decide (Txt.a2f s.data.toList<=hi)
theorem b0o(s:ByteArray)(L M:Nat)(lo hi:Int)(w:World)(hs:s.size<=160)(cl:w.cell? ⟨L,0,none⟩=some (.int .i64 lo))(cm:w.cell? ⟨M,0,none⟩=some (.int .i64 hi)):
  Calls Tryz.prog 191 #[.string s,.pointer (some ⟨L,0,none⟩),.pointer (some ⟨M,0,none⟩)] w fun e w'=>e=.returned (.tuple #[.int .i64 (Txt.a2f s.data.toList),.bool (a0K s lo hi)])/\∃ n,w'=w.drewN n:=by
 have hm:s.size<=maxLen:=by unfold maxLen;omega
 cases hn:Txt.isNum s.data.toList
 ·go_enter Tryz.func191,Tryz.ntmps191
  go_wp2_with fail
  refine (a0m s w hm).mono ?_;rintro e w1 ⟨rfl,rfl⟩;rw[hn];go_wp2
  go_quiet (fail)
  go_wp2;go_ret2;exact⟨a0A rfl (by simp[a0K,hn]),_,rfl⟩
 ·by_cases g1:lo<=Txt.a2f s.data.toList
  ·by_cases g2:Txt.a2f s.data.toList<=hi
   ·go_enter Tryz.func191,Tryz.ntmps191
    go_wp2_with fail
    refine (a0m s w hm).mono ?_;rintro e w1 ⟨rfl,rfl⟩;rw[hn];go_wp2
    go_quiet (fail)
    go_wp2;go_ret2;exact⟨a0A rfl (by simp[a0K,hn,g1,g2]),_,rfl⟩
   ·have g2':decide (Txt.a2f s.data.toList<=hi)=false:=decide_eq_false g2
    go_enter Tryz.func191,Tryz.ntmps191
    go_wp2_with fail
    refine (a0m s w hm).mono ?_;rintro e w1 ⟨rfl,rfl⟩;rw[hn];go_wp2
    go_quiet (fail)
    go_wp2;go_ret2;exact⟨a0A rfl (by simp[a0K,hn,g1,g2']),_,rfl⟩
  ·have g1':decide (lo<=Txt.a2f s.data.toList)=false:=decide_eq_false g1
   go_enter Tryz.func191,Tryz.ntmps191
   go_wp2_with fail
   refine (a0m s w hm).mono ?_;rintro e w1 ⟨rfl,rfl⟩;rw[hn];go_wp2
   go_quiet (fail)
   go_wp2;go_ret2;exact⟨a0A rfl (by simp[a0K,hn,g1']),_,rfl⟩
theorem small(h:n<=160):n<=maxLen:=by unfold maxLen;omega
theorem b4p(R A:Nat)(ws:List ByteArray)(nx:Nat)(wr:Bool)(w:World)(h:RS w R A ws nx wr)(he:Env w)(hm:a1b ws.length nx wr=true)(hlt:nx<ws.length)(hb:a0n ws[nx]=true):
  Calls Tryz.prog 135 #[.pointer (some ⟨R,0,none⟩),.func (.func 140) #[] #[]] w fun e w'=>e=.returned (.int .i64 (a1J ws[nx]))/\RS w' R A ws (nx+1) wr/\Kept R w w':=by
 have hi:(nx:Int)<(ws.length:Int):=by omega
 have hsz:ws[nx].size<=160:=h.short _ (zg hlt);have HSZ:=hide hsz;clear hsz;have HE:=hide he;clear he
 go_enter Tryz.func135,Tryz.ntmps135
 go_wp2_with fail
 refine (a0X R A ws nx wr w h).mono ?_;rintro e w1 ⟨rfl,n,hw⟩;have h1:RS w1 R A ws nx wr:=by rw[hw];exact h.drewN n
 have k1:Kept R w w1:=by rw[hw];exact (Kept.refl R w).drewN n
 have HE1:Hid (Env w1):=by show Env w1;rw[hw];exact (a0d HE).drewN n
 have c0:=h1.c0;have c1:=h1.c1;have f1:=h1.f1;have cr:=h1.rows nx hlt;have hl:=h1.len;clear hw;go_wp2
 go_quiet ((go_at_call 140;exact Calls.quiet_of (a7Z _ _ ((a0d HE1).drewN _) (a0d HSZ))))
 go_wp2;go_ret;exact⟨rfl,(h1.drewN _).step hlt,(k1.drewN _).setCell _ _⟩
theorem b4q(R A:Nat)(ws:List ByteArray)(nx:Nat)(wr:Bool)(w:World)(h:RS w R A ws nx wr)(he:Env w)(hm:a1b ws.length nx wr=true)(hlt:nx<ws.length)(hb:a0n ws[nx]=false):
  Calls Tryz.prog 135 #[.pointer (some ⟨R,0,none⟩),.func (.func 140) #[] #[]] w fun e w'=>e=.returned (.int .i64 (0))/\RS w' R A ws nx true/\Kept R w w':=by
 have hi:(nx:Int)<(ws.length:Int):=by omega
 have hsz:ws[nx].size<=160:=h.short _ (zg hlt);have HSZ:=hide hsz;clear hsz;have HE:=hide he;clear he
 go_enter Tryz.func135,Tryz.ntmps135
 go_wp2_with fail
 refine (a0X R A ws nx wr w h).mono ?_;rintro e w1 ⟨rfl,n,hw⟩;have h1:RS w1 R A ws nx wr:=by rw[hw];exact h.drewN n
 have k1:Kept R w w1:=by rw[hw];exact (Kept.refl R w).drewN n
 have HE1:Hid (Env w1):=by show Env w1;rw[hw];exact (a0d HE).drewN n
 have c0:=h1.c0;have c1:=h1.c1;have c2:=h1.c2;have f2:=h1.f2;have cr:=h1.rows nx hlt;have hl:=h1.len;clear hw;go_wp2
 go_quiet ((go_at_call 140;exact Calls.quiet_of (a7Z _ _ ((a0d HE1).drewN _) (a0d HSZ))))
 go_wp2;go_ret;exact⟨rfl,(h1.drewN _).bad,(k1.drewN _).setCell _ _⟩
theorem b1r(L M:Nat)(lo hi:Int)(R A:Nat)(ws:List ByteArray)(nx:Nat)(wr:Bool)(w:World)(h:RS w R A ws nx wr)(cl:w.cell? ⟨L,0,none⟩=some (.int .i64 lo))(cm:w.cell? ⟨M,0,none⟩=some (.int .i64 hi))(hm:a1b ws.length nx wr=true)(hlt:nx<ws.length)(hb:a0K ws[nx] lo hi=true):
  Calls Tryz.prog 135 #[.pointer (some ⟨R,0,none⟩),.func (.func 191) #[] #[.pointer (some ⟨L,0,none⟩),.pointer (some ⟨M,0,none⟩)]] w fun e w'=>e=.returned (.int .i64 (Txt.a2f ws[nx].data.toList))/\RS w' R A ws (nx+1) wr/\Kept R w w':=by
 have hib:(nx:Int)<(ws.length:Int):=by omega
 have hsz:ws[nx].size<=160:=h.short _ (zg hlt);have HSZ:=hide hsz;clear hsz
 go_enter Tryz.func135,Tryz.ntmps135
 go_wp2_with fail
 refine (a0X R A ws nx wr w h).mono ?_;rintro e w1 ⟨rfl,n,hw⟩;have h1:RS w1 R A ws nx wr:=by rw[hw];exact h.drewN n
 have k1:Kept R w w1:=by rw[hw];exact (Kept.refl R w).drewN n
 have cl1:Hid (w1.cell? ⟨L,0,none⟩=some (.int .i64 lo)):=by show w1.cell? _=_;rw[hw];exact cl
 have cm1:Hid (w1.cell? ⟨M,0,none⟩=some (.int .i64 hi)):=by show w1.cell? _=_;rw[hw];exact cm
 clear cl cm;have c0:=h1.c0;have c1:=h1.c1;have f1:=h1.f1;have cr:=h1.rows nx hlt;have hl:=h1.len;clear hw;go_wp2
 go_quiet ((go_at_call 191;exact Calls.quiet_of (b0o _ L M lo hi _ (a0d HSZ) (a0d cl1) (a0d cm1))))
 go_wp2;go_ret;exact⟨rfl,(h1.drewN _).step hlt,(k1.drewN _).setCell _ _⟩
theorem b1s(L M:Nat)(lo hi:Int)(R A:Nat)(ws:List ByteArray)(nx:Nat)(wr:Bool)(w:World)(h:RS w R A ws nx wr)(cl:w.cell? ⟨L,0,none⟩=some (.int .i64 lo))(cm:w.cell? ⟨M,0,none⟩=some (.int .i64 hi))(hm:a1b ws.length nx wr=true)(hlt:nx<ws.length)(hb:a0K ws[nx] lo hi=false):
  Calls Tryz.prog 135 #[.pointer (some ⟨R,0,none⟩),.func (.func 191) #[] #[.pointer (some ⟨L,0,none⟩),.pointer (some ⟨M,0,none⟩)]] w fun e w'=>e=.returned (.int .i64 (0))/\RS w' R A ws nx true/\Kept R w w':=by
 have hib:(nx:Int)<(ws.length:Int):=by omega
 have hsz:ws[nx].size<=160:=h.short _ (zg hlt);have HSZ:=hide hsz;clear hsz
 go_enter Tryz.func135,Tryz.ntmps135
 go_wp2_with fail
 refine (a0X R A ws nx wr w h).mono ?_;rintro e w1 ⟨rfl,n,hw⟩;have h1:RS w1 R A ws nx wr:=by rw[hw];exact h.drewN n
 have k1:Kept R w w1:=by rw[hw];exact (Kept.refl R w).drewN n
 have cl1:Hid (w1.cell? ⟨L,0,none⟩=some (.int .i64 lo)):=by show w1.cell? _=_;rw[hw];exact cl
 have cm1:Hid (w1.cell? ⟨M,0,none⟩=some (.int .i64 hi)):=by show w1.cell? _=_;rw[hw];exact cm
 clear cl cm;have c0:=h1.c0;have c1:=h1.c1;have c2:=h1.c2;have f2:=h1.f2;have cr:=h1.rows nx hlt;have hl:=h1.len;clear hw;go_wp2
 go_quiet ((go_at_call 191;exact Calls.quiet_of (b0o _ L M lo hi _ (a0d HSZ) (a0d cl1) (a0d cm1))))
 go_wp2;go_ret;exact⟨rfl,(h1.drewN _).bad,(k1.drewN _).setCell _ _⟩
theorem b4r(f:Value)(R A:Nat)(ws:List ByteArray)(nx:Nat)(wr:Bool)(w:World)(h:RS w R A ws nx wr)(hm:a1b ws.length nx wr=false):
  Calls Tryz.prog 130 #[.pointer (some ⟨R,0,none⟩),f] w fun e w'=>e=.returned (.string ⟨#[]⟩)/\RS w' R A ws nx true/\Kept R w w':=by
 go_enter Tryz.func130,Tryz.ntmps130
 go_wp2_with fail
 refine (a0X R A ws nx wr w h).mono ?_;rintro e w1 ⟨rfl,n,hw⟩;have h1:RS w1 R A ws nx wr:=by rw[hw];exact h.drewN n
 have k1:Kept R w w1:=by rw[hw];exact (Kept.refl R w).drewN n
 have c2:=h1.c2;have f2:=h1.f2;clear hw;go_wp2;go_ret;exact⟨rfl,h1.bad,k1.setCell _ _⟩
theorem b4u(R A:Nat)(ws:List ByteArray)(nx:Nat)(wr:Bool)(w:World)(h:RS w R A ws nx wr)(hm:a1b ws.length nx wr=true)(hlt:nx<ws.length)(hb:Txt.a1j ws[nx].data.toList=true):
  Calls Tryz.prog 130 #[.pointer (some ⟨R,0,none⟩),.func (.func 131) #[] #[]] w fun e w'=>e=.returned (.string (b4S ws[nx]))/\RS w' R A ws (nx+1) wr/\Kept R w w':=by
 have hi:(nx:Int)<(ws.length:Int):=by omega
 have hi0:(0:Int)<=(nx:Int):=Int.natCast_nonneg _;have hsz:ws[nx].size<=160:=h.short _ (zg hlt);have HSZ:=hide hsz;clear hsz
 go_enter Tryz.func130,Tryz.ntmps130
 go_wp2_with fail
 refine (a0X R A ws nx wr w h).mono ?_;rintro e w1 ⟨rfl,n,hw⟩;have h1:RS w1 R A ws nx wr:=by rw[hw];exact h.drewN n
 have k1:Kept R w w1:=by rw[hw];exact (Kept.refl R w).drewN n
 have c0:=h1.c0;have c1:=h1.c1;have cr:=h1.rows nx hlt;have hl:=h1.len;clear hw
 go_wp2_with fail
 go_region_held3 (fun w'=>w'.cell? ⟨R,0,none⟩=some (.slice (some ⟨A,0,none⟩) ws.length ws.length)/\w'.cell? ⟨R,1,none⟩=some (.int .i64 nx)/\w'.cell? ⟨A,nx,none⟩=some (.string ws[nx]))
  (first
   |go_keep
   |(
    go_split_ands
    refine⟨?_,?_,?_⟩
    ·exact cell_later hbf (by assumption)
    ·exact cell_later hbf (by assumption)
    ·exact cell_later hbf (by assumption)))
  ((go_at_call 131;refine (a8a _ _ (a0d HSZ)).mono ?_;rintro e w4 ⟨rfl,hbf⟩))
 have hbf':Below w1.heap.size w1 w4:=⟨hbf.os,hbf.tape,hbf.output,hbf.size,hbf.block⟩;have h4:=h1.of_below hbf';have k4:=k1.trans (Kept.of_below hbf');have d1:=h4.c1;have d2:=h4.c2;have g1:=h4.f1;have g2:=h4.f2;clear c0 c1 cr;go_wp2;go_ret;exact⟨rfl,h4.step hlt,k4.setCell _ _⟩
theorem b4v(R A:Nat)(ws:List ByteArray)(nx:Nat)(wr:Bool)(w:World)(h:RS w R A ws nx wr)(hm:a1b ws.length nx wr=true)(hlt:nx<ws.length)(hb:Txt.a1j ws[nx].data.toList=false):
  Calls Tryz.prog 130 #[.pointer (some ⟨R,0,none⟩),.func (.func 131) #[] #[]] w fun e w'=>e=.returned (.string ⟨#[]⟩)/\RS w' R A ws nx true/\Kept R w w':=by
 have hi:(nx:Int)<(ws.length:Int):=by omega
 have hi0:(0:Int)<=(nx:Int):=Int.natCast_nonneg _;have hsz:ws[nx].size<=160:=h.short _ (zg hlt);have HSZ:=hide hsz;clear hsz
 go_enter Tryz.func130,Tryz.ntmps130
 go_wp2_with fail
 refine (a0X R A ws nx wr w h).mono ?_;rintro e w1 ⟨rfl,n,hw⟩;have h1:RS w1 R A ws nx wr:=by rw[hw];exact h.drewN n
 have k1:Kept R w w1:=by rw[hw];exact (Kept.refl R w).drewN n
 have c0:=h1.c0;have c1:=h1.c1;have cr:=h1.rows nx hlt;have hl:=h1.len;clear hw
 go_wp2_with fail
 go_region_held3 (fun w'=>w'.cell? ⟨R,0,none⟩=some (.slice (some ⟨A,0,none⟩) ws.length ws.length)/\w'.cell? ⟨R,1,none⟩=some (.int .i64 nx)/\w'.cell? ⟨A,nx,none⟩=some (.string ws[nx]))
  (first
   |go_keep
   |(
    go_split_ands
    refine⟨?_,?_,?_⟩
    ·exact cell_later hbf (by assumption)
    ·exact cell_later hbf (by assumption)
    ·exact cell_later hbf (by assumption)))
  ((go_at_call 131;refine (a8a _ _ (a0d HSZ)).mono ?_;rintro e w4 ⟨rfl,hbf⟩))
 have hbf':Below w1.heap.size w1 w4:=⟨hbf.os,hbf.tape,hbf.output,hbf.size,hbf.block⟩;have h4:=h1.of_below hbf';have k4:=k1.trans (Kept.of_below hbf');have d1:=h4.c1;have d2:=h4.c2;have g1:=h4.f1;have g2:=h4.f2;clear c0 c1 cr;go_wp2;go_ret;exact⟨rfl,h4.bad,k4.setCell _ _⟩
theorem a8I(h:a1b ws.length nx wr=false):tkB ws nx wr B=false:=by simp[tkB,h]
theorem a7h{b:Bool}(h:a1b ws.length nx wr=true)(hlt:nx<ws.length)(hb:B ws[nx]=b):tkB ws nx wr B=b:=by
 rw[tkB,h,a5f ws nx hlt,hb,Bool.true_and]
theorem b4t(R A:Nat)(ws:List ByteArray)(nx:Nat)(wr:Bool)(w:World)(h:RS w R A ws nx wr):
  Calls Tryz.prog 135 #[.pointer (some ⟨R,0,none⟩),.func (.func 139) #[] #[]] w fun e w'=>e=.returned (.int .i64 (tkV ws nx wr (fun s=>Txt.isNum s.data.toList) (fun s=>Txt.a2f s.data.toList)))/\RS w' R A ws (tkN ws nx wr (fun s=>Txt.isNum s.data.toList)) (tkW ws nx wr (fun s=>Txt.isNum s.data.toList))/\Kept R w w':=by
 cases hm:a1b ws.length nx wr
 ·have t:=a8I (B:=(fun s=>Txt.isNum s.data.toList)) hm;rw[tkV,tkN,tkW,t];exact a3s _ R A ws nx wr w h hm
 ·have hlt:=a4q hm
  cases hb:(fun s=>Txt.isNum s.data.toList) ws[nx]
  ·have t:=a7h (B:=(fun s=>Txt.isNum s.data.toList)) hm hlt hb;rw[tkV,tkN,tkW,t];exact b7O R A ws nx wr w h hm hlt (small (h.short _ (zg hlt))) hb
  ·have t:=a7h (B:=(fun s=>Txt.isNum s.data.toList)) hm hlt hb;rw[tkV,tkN,tkW,t,a5f ws nx hlt];exact b7N R A ws nx wr w h hm hlt (small (h.short _ (zg hlt))) hb
theorem a7V(R A:Nat)(ws:List ByteArray)(nx:Nat)(wr:Bool)(w:World)(h:RS w R A ws nx wr)(he:Env w):
  Calls Tryz.prog 135 #[.pointer (some ⟨R,0,none⟩),.func (.func 140) #[] #[]] w fun e w'=>e=.returned (.int .i64 (tkV ws nx wr a0n a1J))/\RS w' R A ws (tkN ws nx wr a0n) (tkW ws nx wr a0n)/\Kept R w w':=by
 cases hm:a1b ws.length nx wr
 ·have t:=a8I (B:=a0n) hm;rw[tkV,tkN,tkW,t];exact a3s _ R A ws nx wr w h hm
 ·have hlt:=a4q hm
  cases hb:a0n ws[nx]
  ·have t:=a7h (B:=a0n) hm hlt hb;rw[tkV,tkN,tkW,t];exact b4q R A ws nx wr w h he hm hlt hb
  ·have t:=a7h (B:=a0n) hm hlt hb;rw[tkV,tkN,tkW,t,a5f ws nx hlt];exact b4p R A ws nx wr w h he hm hlt hb
theorem b0b(L M:Nat)(lo hi:Int)(R A:Nat)(ws:List ByteArray)(nx:Nat)(wr:Bool)(w:World)(h:RS w R A ws nx wr)(cl:w.cell? ⟨L,0,none⟩=some (.int .i64 lo))(cm:w.cell? ⟨M,0,none⟩=some (.int .i64 hi)):
  Calls Tryz.prog 135 #[.pointer (some ⟨R,0,none⟩),.func (.func 191) #[] #[.pointer (some ⟨L,0,none⟩),.pointer (some ⟨M,0,none⟩)]] w fun e w'=>e=.returned (.int .i64 (tkV ws nx wr (fun s=>a0K s lo hi) (fun s=>Txt.a2f s.data.toList)))/\RS w' R A ws (tkN ws nx wr (fun s=>a0K s lo hi)) (tkW ws nx wr (fun s=>a0K s lo hi))/\Kept R w w':=by
 cases hm:a1b ws.length nx wr
 ·have t:=a8I (B:=(fun s=>a0K s lo hi)) hm;rw[tkV,tkN,tkW,t];exact a3s _ R A ws nx wr w h hm
 ·have hlt:=a4q hm
  cases hb:(fun s=>a0K s lo hi) ws[nx]
  ·have t:=a7h (B:=(fun s=>a0K s lo hi)) hm hlt hb;rw[tkV,tkN,tkW,t];exact b1s L M lo hi R A ws nx wr w h cl cm hm hlt hb
  ·have t:=a7h (B:=(fun s=>a0K s lo hi)) hm hlt hb;rw[tkV,tkN,tkW,t,a5f ws nx hlt];exact b1r L M lo hi R A ws nx wr w h cl cm hm hlt hb
def tkS(ws:List ByteArray)(nx:Nat)(wr:Bool):ByteArray:=if tkB ws nx wr (fun s=>Txt.a1j s.data.toList) then b4S (ws.getD nx ByteArray.empty) else ⟨#[]⟩
theorem b2E(R A:Nat)(ws:List ByteArray)(nx:Nat)(wr:Bool)(w:World)(h:RS w R A ws nx wr):
  Calls Tryz.prog 130 #[.pointer (some ⟨R,0,none⟩),.func (.func 131) #[] #[]] w fun e w'=>e=.returned (.string (tkS ws nx wr))/\RS w' R A ws (tkN ws nx wr (fun s=>Txt.a1j s.data.toList)) (tkW ws nx wr (fun s=>Txt.a1j s.data.toList))/\Kept R w w':=by
 cases hm:a1b ws.length nx wr
 ·have t:=a8I (B:=fun s=>Txt.a1j s.data.toList) hm;rw[tkS,tkN,tkW,t];exact b4r _ R A ws nx wr w h hm
 ·have hlt:=a4q hm
  cases hb:Txt.a1j ws[nx].data.toList
  ·have t:=a7h (B:=fun s=>Txt.a1j s.data.toList) hm hlt hb;rw[tkS,tkN,tkW,t];exact b4v R A ws nx wr w h hm hlt hb
  ·have t:=a7h (B:=fun s=>Txt.a1j s.data.toList) hm hlt hb;rw[tkS,tkN,tkW,t,a5f ws nx hlt];exact b4u R A ws nx wr w h hm hlt hb
theorem a4n(lo hi:Int)(R A:Nat)(ws:List ByteArray)(nx:Nat)(wr:Bool)(w:World)(h:RS w R A ws nx wr):
  Calls Tryz.prog 132 #[.pointer (some ⟨R,0,none⟩),.int .i64 lo,.int .i64 hi] w fun e w'=>e=.returned (.int .i64 (tkV ws nx wr (fun s=>a0K s lo hi) (fun s=>Txt.a2f s.data.toList)))/\RS w' R A ws (tkN ws nx wr (fun s=>a0K s lo hi)) (tkW ws nx wr (fun s=>a0K s lo hi))/\Kept R w w':=by
 go_enter Tryz.func132,Tryz.ntmps132
 go_wp2_with fail
 obtain⟨X,hX⟩:∃ X,X=(w.alloc (.cells #[.int .i64 lo] 3)).alloc (.cells #[.int .i64 hi] 3):=⟨_,rfl⟩;rw[<- hX];have hb:Below w.heap.size w X:=by rw[hX];exact ((zr _ _).alloc (zq _) _).alloc (by simp) _
 have cl:X.cell? ⟨w.heap.size,0,none⟩=some (.int .i64 lo):=by rw[hX];simp
 have cm:X.cell? ⟨w.heap.size+1,0,none⟩=some (.int .i64 hi):=by rw[hX];simp
 clear hX;refine (b0b w.heap.size (w.heap.size+1) lo hi R A ws nx wr X (h.of_below hb) cl cm).mono ?_;rintro e w1 ⟨rfl,h1,k1⟩;have kk:=(Kept.of_below (R:=R) hb).trans k1;go_wp2;go_ret;exact⟨rfl,h1,kk⟩
theorem a3v(R A:Nat)(ws:List ByteArray)(nx:Nat)(wr:Bool)(w:World)(h:RS w R A ws nx wr):
  Calls Tryz.prog 83 #[.pointer (some ⟨R,0,none⟩)] w fun e w'=>e=.returned (.string (tkS ws nx wr))/\RS w' R A ws (tkN ws nx wr (fun s=>Txt.a1j s.data.toList)) (tkW ws nx wr (fun s=>Txt.a1j s.data.toList))/\Kept R w w':=by
 go_enter Tryz.func83,Tryz.ntmps83
 go_wp2_with fail
 refine (b2E R A ws nx wr w h).mono ?_;rintro e w1 ⟨rfl,h1,k1⟩;go_wp2;go_ret;exact⟨rfl,h1,k1⟩
theorem b9J(R A:Nat)(ws:List ByteArray)(nx:Nat)(wr:Bool)(w:World)(h:RS w R A ws nx wr):
  Calls Tryz.prog 88 #[.pointer (some ⟨R,0,none⟩)] w fun e w'=>e=.returned (.int .i64 (tkV ws nx wr (fun s=>Txt.isNum s.data.toList) (fun s=>Txt.a2f s.data.toList)))/\RS w' R A ws (tkN ws nx wr (fun s=>Txt.isNum s.data.toList)) (tkW ws nx wr (fun s=>Txt.isNum s.data.toList))/\Kept R w w':=by
 go_enter Tryz.func88,Tryz.ntmps88
 go_wp2_with fail
 refine (b4t R A ws nx wr w h).mono ?_;rintro e w1 ⟨rfl,h1,k1⟩;go_wp2;go_ret;exact⟨rfl,h1,k1⟩
theorem a5v(R A:Nat)(ws:List ByteArray)(nx:Nat)(wr:Bool)(w:World)(h:RS w R A ws nx wr):
  Calls Tryz.prog 84 #[.pointer (some ⟨R,0,none⟩)] w fun e w'=>e=.returned (.int .i64 (tkV ws nx wr (fun s=>a0K s 1 9) (fun s=>Txt.a2f s.data.toList)))/\RS w' R A ws (tkN ws nx wr (fun s=>a0K s 1 9)) (tkW ws nx wr (fun s=>a0K s 1 9))/\Kept R w w':=by
 go_enter Tryz.func84,Tryz.ntmps84
 go_wp2_with fail
 refine (a4n 1 9 R A ws nx wr w h).mono ?_;rintro e w1 ⟨rfl,h1,k1⟩;go_wp2;go_ret;exact⟨rfl,h1,k1⟩
theorem a2S(R A:Nat)(ws:List ByteArray)(nx:Nat)(wr:Bool)(w:World)(h:RS w R A ws nx wr):
  Calls Tryz.prog 86 #[.pointer (some ⟨R,0,none⟩)] w fun e w'=>e=.returned (.int .i64 (tkV ws nx wr (fun s=>a0K s 1 1048320) (fun s=>Txt.a2f s.data.toList)))/\RS w' R A ws (tkN ws nx wr (fun s=>a0K s 1 1048320)) (tkW ws nx wr (fun s=>a0K s 1 1048320))/\Kept R w w':=by
 go_enter Tryz.func86,Tryz.ntmps86
 go_wp2_with fail
 refine (a4n 1 1048320 R A ws nx wr w h).mono ?_;rintro e w1 ⟨rfl,h1,k1⟩;go_wp2;go_ret;exact⟨rfl,h1,k1⟩
theorem RS.other(h:RS w R A ws nx wr)(hR:b≠R)(hA:0<ws.length->b≠A):RS (w.setCell ⟨b,o,none⟩ v) R A ws nx wr:=by
 have g:∀ j:Nat,(w.setCell ⟨b,o,none⟩ v).cell? ⟨R,j,none⟩=w.cell? ⟨R,j,none⟩:=fun j=>World.cell?_setCell_far w ⟨b,o,none⟩ ⟨R,j,none⟩ v hR
 refine⟨(g 0).trans h.c0,(g 1).trans h.c1,(g 2).trans h.c2,(zF ..).trans h.f1,(zF ..).trans h.f2,h.ne,fun i hi=>?_,h.len,h.c6c,h.short⟩;exact (World.cell?_setCell_far w ⟨b,o,none⟩ ⟨A,i,none⟩ v (hA (by omega))).trans (h.rows i hi)
theorem RS.lt(h:RS w R A ws nx wr):R<w.heap.size/\(0<ws.length->A<w.heap.size) :=
 ⟨World.block_lt_of_cell? _ ⟨R,0,none⟩ h.c0,fun hl=>World.block_lt_of_cell? _ ⟨A,0,none⟩ (h.rows 0 hl)⟩
theorem Kept.setNew(h:Kept R w w')(hb:w.heap.size<=b)(v:Value):Kept R w (w'.setCell ⟨b,o,none⟩ v) :=
 ⟨(Below.setCell (B:=0) (Below.refl 0 w') (p:=⟨b,o,none⟩) (zN _) v).os.trans h.os,(Below.setCell (B:=0) (Below.refl 0 w') (p:=⟨b,o,none⟩) (zN _) v).tape.trans h.tape,(Below.setCell (B:=0) (Below.refl 0 w') (p:=⟨b,o,none⟩) (zN _) v).output.trans h.output,Nat.le_trans h.size (Below.setCell (B:=0) (Below.refl 0 w') (p:=⟨b,o,none⟩) (zN _) v).size,fun k hk hr=>(Below.heap_setCell w' ⟨b,o,none⟩ v k (show k≠b by omega)).trans (h.block k hk hr)⟩
theorem Kept.frozen(h:Kept R w w')(hne:b≠R)(hb:b<w.heap.size):w'.frozen? ⟨b,o,none⟩=w.frozen? ⟨b,o,none⟩:=World.frozen?_of_block (w:=w) (h.block b hb hne)
def tN2(ws:List ByteArray)(nx:Nat)(wr:Bool)(B C:ByteArray->Bool):Nat:=tkN ws (tkN ws nx wr B) (tkW ws nx wr B) C
def tW2(ws:List ByteArray)(nx:Nat)(wr:Bool)(B C:ByteArray->Bool):Bool:=tkW ws (tkN ws nx wr B) (tkW ws nx wr B) C
theorem a6F(R A:Nat)(ws:List ByteArray)(nx:Nat)(wr:Bool)(w:World)(h:RS w R A ws nx wr)(he:Env w)(hR:10<=R):
  Calls Tryz.prog 90 #[.pointer (some ⟨R,0,none⟩)] w fun e w'=>e=.returned (.agg #[.int .i64 (tkV ws nx wr a0n a1J),.int .i64 (tkV ws (tkN ws nx wr a0n) (tkW ws nx wr a0n) a0n a1J)])/\RS w' R A ws (tN2 ws nx wr a0n a0n) (tW2 ws nx wr a0n a0n)/\Kept R w w':=by
 have HE:=hide he;clear he
 go_enter Tryz.func90,Tryz.ntmps90
 go_wp2_with fail
 obtain⟨hRl,hAl⟩:=h.lt;obtain⟨X,hX⟩:∃ X,X=w.alloc (.cells #[.int .i64 0,.int .i64 0] 60):=⟨_,rfl⟩;rw[<- hX];have hb:Below w.heap.size w X:=by rw[hX];exact (zr _ _).alloc (zq _) _
 have x0:X.cell? ⟨w.heap.size,0,none⟩=some (.int .i64 0):=by rw[hX];simp
 have x1:X.cell? ⟨w.heap.size,1,none⟩=some (.int .i64 0):=by rw[hX];simp
 have xf:∀ j:Nat,X.frozen? ⟨w.heap.size,j,none⟩=false:=fun j=>by rw[hX];simp
 have xs:w.heap.size<X.heap.size:=by rw[hX];simp
 clear hX;have eX:=(a0d HE).later hb;refine (a7V R A ws nx wr X (h.of_below hb) eX).mono ?_;rintro e w1 ⟨rfl,h1,k1⟩;have e1:=eX.kept k1 hR
 go_wp2_with fail
 refine (a7V R A ws _ _ w1 h1 e1).mono ?_;rintro e w2 ⟨rfl,h2,k2⟩;have k12:=k1.trans k2;have y0:=k12.cell (b:=w.heap.size) (o:=0) (by omega) x0;have y1:=k12.cell (b:=w.heap.size) (o:=1) (by omega) x1;have yf:∀ j:Nat,w2.frozen? ⟨w.heap.size,j,none⟩=false:=fun j=>(k12.frozen (by omega) xs).trans (xf j)
 have kk:=(Kept.of_below (R:=R) hb).trans k12;have H2:=hide h2;clear h1 h2 e1 eX x0 x1 xf;go_wp2;refine bodyPost_ret (v:=.agg #[.int .i64 (tkV ws nx wr a0n a1J),.int .i64 (tkV ws (tkN ws nx wr a0n) (tkW ws nx wr a0n) a0n a1J)]) (by simp[results,Tryz.results90,go_sem,y0,y1]) rfl ⟨rfl,?_,?_⟩
 ·exact ((a0d H2).other (by omega) (fun hl=>by have:=hAl hl;omega)).other (by omega) (fun hl=>by have:=hAl hl;omega)
 ·exact (kk.setNew (zq _) _).setNew (zq _) _
def nmB(s:ByteArray):Bool:=Txt.a1j s.data.toList
def unB(s:ByteArray):Bool:=a0K s 1 9
def nvF(s:ByteArray):Int:=Txt.a2f s.data.toList
def stp(ws:List ByteArray)(B:ByteArray->Bool)(st:Nat × Bool):Nat × Bool:=(tkN ws st.1 st.2 B,tkW ws st.1 st.2 B)
def a0M(ws:List ByteArray)(Bs:List (ByteArray->Bool))(st:Nat × Bool):Nat × Bool:=Bs.foldl (fun st B=>stp ws B st) st
def a2F(ws:List ByteArray)(st:Nat × Bool):ByteArray:=tkS ws st.1 st.2
def a0v(ws:List ByteArray)(st:Nat × Bool)(B:ByteArray->Bool)(V:ByteArray->Int):Int:=tkV ws st.1 st.2 B V
theorem a7w(R A:Nat)(ws:List ByteArray)(st:Nat × Bool)(w:World)(h:RS w R A ws st.1 st.2)(he:Env w)(hR:10<=R):
  Calls Tryz.prog 85 #[.pointer (some ⟨R,0,none⟩)] w fun e w' =>
   e=.returned (.agg #[.string (a2F ws st),.int .i64 (a0v ws (a0M ws [nmB] st) unB nvF),.int .i64 (a0v ws (a0M ws [nmB,unB] st) a0n a1J),.int .i64 (a0v ws (a0M ws [nmB,unB,a0n] st) a0n a1J)]) /\
   RS w' R A ws (a0M ws [nmB,unB,a0n,a0n] st).1 (a0M ws [nmB,unB,a0n,a0n] st).2/\Kept R w w':=by
 have HE:=hide he;clear he
 go_enter Tryz.func85,Tryz.ntmps85
 go_wp2_with fail
 obtain⟨hRl,hAl⟩:=h.lt;obtain⟨X,hX⟩:∃ X,X=w.alloc (.cells #[.string ⟨#[]⟩,.int .i64 0,.int .i64 0,.int .i64 0] 151):=⟨_,rfl⟩;rw[<- hX];have hb:Below w.heap.size w X:=by rw[hX];exact (zr _ _).alloc (zq _) _
 have x0:X.cell? ⟨w.heap.size,0,none⟩=some (.string ⟨#[]⟩):=by rw[hX];simp
 have x1:X.cell? ⟨w.heap.size,1,none⟩=some (.int .i64 0):=by rw[hX];simp
 have x2:X.cell? ⟨w.heap.size,2,none⟩=some (.int .i64 0):=by rw[hX];simp
 have x3:X.cell? ⟨w.heap.size,3,none⟩=some (.int .i64 0):=by rw[hX];simp
 have xf:∀ j:Nat,X.frozen? ⟨w.heap.size,j,none⟩=false:=fun j=>by rw[hX];simp
 have xs:w.heap.size<X.heap.size:=by rw[hX];simp
 clear hX;have eX:=(a0d HE).later hb;refine (a3v R A ws st.1 st.2 X (h.of_below hb)).mono ?_;rintro e w1 ⟨rfl,h1,k1⟩;have e1:=eX.kept k1 hR
 go_wp2_with fail
 refine (a5v R A ws _ _ w1 h1).mono ?_;rintro e w2 ⟨rfl,h2,k2⟩;have e2:=e1.kept k2 hR
 go_wp2_with fail
 refine (a6F R A ws _ _ w2 h2 e2 hR).mono ?_;rintro e w3 ⟨rfl,h3,k3⟩;have k13:=(k1.trans k2).trans k3;have y0:=k13.cell (b:=w.heap.size) (o:=0) (by omega) x0;have y1:=k13.cell (b:=w.heap.size) (o:=1) (by omega) x1;have y2:=k13.cell (b:=w.heap.size) (o:=2) (by omega) x2;have y3:=k13.cell (b:=w.heap.size) (o:=3) (by omega) x3;have yf:∀ j:Nat,w3.frozen? ⟨w.heap.size,j,none⟩=false:=fun j=>(k13.frozen (by omega) xs).trans (xf j)
 have kk:=(Kept.of_below (R:=R) hb).trans k13;have H3:=hide h3;clear h1 h2 h3 e1 e2 eX x0 x1 x2 x3 xf;go_wp2;refine bodyPost_ret (v:=.agg #[.string (a2F ws st),.int .i64 (a0v ws (a0M ws [nmB] st) unB nvF),.int .i64 (a0v ws (a0M ws [nmB,unB] st) a0n a1J),.int .i64 (a0v ws (a0M ws [nmB,unB,a0n] st) a0n a1J)]) (by simp[results,Tryz.results85,go_sem,y0,y1,y2,y3];exact⟨rfl,rfl,rfl,rfl⟩) rfl ⟨rfl,?_,?_⟩
 ·exact ((((a0d H3).other (by omega) (fun hl=>by have:=hAl hl;omega)).other (by omega) (fun hl=>by have:=hAl hl;omega)).other (by omega) (fun hl=>by have:=hAl hl;omega)).other (by omega) (fun hl=>by have:=hAl hl;omega)
 ·exact (((kk.setNew (zq _) _).setNew (zq _) _).setNew (zq _) _).setNew (zq _) _
theorem b9H(R A:Nat)(ws:List ByteArray)(st:Nat × Bool)(w:World)(h:RS w R A ws st.1 st.2)(hm:a1b ws.length (a0M ws [nmB] st).1 (a0M ws [nmB] st).2=false):
  Calls Tryz.prog 89 #[.pointer (some ⟨R,0,none⟩)] w fun e w' =>
   e=.returned (.agg #[.string (a2F ws st),.bool false,.int .i64 0,.int .i64 0])/\RS w' R A ws (a0M ws [nmB] st).1 (a0M ws [nmB] st).2/\Kept R w w':=by
 go_enter Tryz.func89,Tryz.ntmps89
 go_wp2_with fail
 obtain⟨hRl,hAl⟩:=h.lt;obtain⟨X,hX⟩:∃ X,X=w.alloc (.cells #[.string ⟨#[]⟩,.bool false,.int .i64 0,.int .i64 0] 170):=⟨_,rfl⟩;rw[<- hX];have hb:Below w.heap.size w X:=by rw[hX];exact (zr _ _).alloc (zq _) _
 have x0:X.cell? ⟨w.heap.size,0,none⟩=some (.string ⟨#[]⟩):=by rw[hX];simp
 have x1:X.cell? ⟨w.heap.size,1,none⟩=some (.bool false):=by rw[hX];simp
 have x2:X.cell? ⟨w.heap.size,2,none⟩=some (.int .i64 0):=by rw[hX];simp
 have x3:X.cell? ⟨w.heap.size,3,none⟩=some (.int .i64 0):=by rw[hX];simp
 have xf:∀ j:Nat,X.frozen? ⟨w.heap.size,j,none⟩=false:=fun j=>by rw[hX];simp
 have xs:w.heap.size<X.heap.size:=by rw[hX];simp
 clear hX;refine (a3v R A ws st.1 st.2 X (h.of_below hb)).mono ?_;rintro e w1 ⟨rfl,h1,k1⟩;have z1:=k1.size
 go_wp2_with fail
 obtain⟨Y,hY⟩:∃ Y,Y=w1.alloc (.cells #[.string (tkS ws st.1 st.2),.bool false,.int .i64 0,.int .i64 0] 170):=⟨_,rfl⟩;rw[<- hY];have hbY:Below w1.heap.size w1 Y:=by rw[hY];exact (zr _ _).alloc (zq _) _
 have v0:Y.cell? ⟨w1.heap.size,0,none⟩=some (.string (tkS ws st.1 st.2)):=by rw[hY];simp
 have v1:Y.cell? ⟨w1.heap.size,1,none⟩=some (.bool false):=by rw[hY];simp
 have v2:Y.cell? ⟨w1.heap.size,2,none⟩=some (.int .i64 0):=by rw[hY];simp
 have v3:Y.cell? ⟨w1.heap.size,3,none⟩=some (.int .i64 0):=by rw[hY];simp
 have ys:w1.heap.size<Y.heap.size:=by rw[hY];simp
 clear hY;have kY:=k1.trans (Kept.of_below (R:=R) hbY);have y0:=kY.cell (b:=w.heap.size) (o:=0) (by omega) x0;have y1:=kY.cell (b:=w.heap.size) (o:=1) (by omega) x1;have y2:=kY.cell (b:=w.heap.size) (o:=2) (by omega) x2;have y3:=kY.cell (b:=w.heap.size) (o:=3) (by omega) x3;have yf:∀ j:Nat,Y.frozen? ⟨w.heap.size,j,none⟩=false:=fun j=>(kY.frozen (by omega) xs).trans (xf j)
 have hY1:=h1.of_below hbY;refine (a0X R A ws _ _ Y hY1).mono ?_;rintro e w2 ⟨rfl,n,rfl⟩;have HM:Hid (a1b ws.length (tkN ws st.1 st.2 fun s=>Txt.a1j s.data.toList) (tkW ws st.1 st.2 fun s=>Txt.a1j s.data.toList)=false):=hm;rw[HM.out];have kk:=(Kept.of_below (R:=R) hb).trans kY;have H1:=hide hY1;clear h1 hY1 x0 x1 x2 x3 xf hm;go_wp2;refine bodyPost_ret (v:=.agg #[.string (a2F ws st),.bool false,.int .i64 0,.int .i64 0]) (by simp[results,Tryz.results89,go_sem,y0,y1,y2,y3];rfl) rfl ⟨rfl,?_,?_⟩
 ·exact (((((a0d H1).drewN _).other (by omega) (fun hl=>by have:=hAl hl;omega)).other (by omega) (fun hl=>by have:=hAl hl;omega)).other (by omega) (fun hl=>by have:=hAl hl;omega)).other (by omega) (fun hl=>by have:=hAl hl;omega)
 ·exact ((((kk.drewN _).setNew (zq _) _).setNew (zq _) _).setNew (zq _) _).setNew (zq _) _
theorem b7W(R A:Nat)(ws:List ByteArray)(st:Nat × Bool)(w:World)(h:RS w R A ws st.1 st.2)(he:Env w)(hR:10<=R)(hm:a1b ws.length (a0M ws [nmB] st).1 (a0M ws [nmB] st).2=true):
  Calls Tryz.prog 89 #[.pointer (some ⟨R,0,none⟩)] w fun e w' =>
   e=.returned (.agg #[.string (a2F ws st),.bool true,.int .i64 (a0v ws (a0M ws [nmB] st) a0n a1J),.int .i64 (a0v ws (a0M ws [nmB,a0n] st) a0n a1J)])/\RS w' R A ws (a0M ws [nmB,a0n,a0n] st).1 (a0M ws [nmB,a0n,a0n] st).2/\Kept R w w':=by
 have HE:=hide he;clear he
 go_enter Tryz.func89,Tryz.ntmps89
 go_wp2_with fail
 obtain⟨hRl,hAl⟩:=h.lt;obtain⟨X,hX⟩:∃ X,X=w.alloc (.cells #[.string ⟨#[]⟩,.bool false,.int .i64 0,.int .i64 0] 170):=⟨_,rfl⟩;rw[<- hX];have hb:Below w.heap.size w X:=by rw[hX];exact (zr _ _).alloc (zq _) _
 have x0:X.cell? ⟨w.heap.size,0,none⟩=some (.string ⟨#[]⟩):=by rw[hX];simp
 have x1:X.cell? ⟨w.heap.size,1,none⟩=some (.bool false):=by rw[hX];simp
 have x2:X.cell? ⟨w.heap.size,2,none⟩=some (.int .i64 0):=by rw[hX];simp
 have x3:X.cell? ⟨w.heap.size,3,none⟩=some (.int .i64 0):=by rw[hX];simp
 have xf:∀ j:Nat,X.frozen? ⟨w.heap.size,j,none⟩=false:=fun j=>by rw[hX];simp
 have xs:w.heap.size<X.heap.size:=by rw[hX];simp
 clear hX;have eX:=(a0d HE).later hb;refine (a3v R A ws st.1 st.2 X (h.of_below hb)).mono ?_;rintro e w1 ⟨rfl,h1,k1⟩;have z1:=k1.size;have e1:=eX.kept k1 hR
 go_wp2_with fail
 obtain⟨Y,hY⟩:∃ Y,Y=w1.alloc (.cells #[.string (tkS ws st.1 st.2),.bool false,.int .i64 0,.int .i64 0] 170):=⟨_,rfl⟩;rw[<- hY];have hbY:Below w1.heap.size w1 Y:=by rw[hY];exact (zr _ _).alloc (zq _) _
 have v0:Y.cell? ⟨w1.heap.size,0,none⟩=some (.string (tkS ws st.1 st.2)):=by rw[hY];simp
 have v1:Y.cell? ⟨w1.heap.size,1,none⟩=some (.bool false):=by rw[hY];simp
 have v2:Y.cell? ⟨w1.heap.size,2,none⟩=some (.int .i64 0):=by rw[hY];simp
 have v3:Y.cell? ⟨w1.heap.size,3,none⟩=some (.int .i64 0):=by rw[hY];simp
 have vf:∀ j:Nat,Y.frozen? ⟨w1.heap.size,j,none⟩=false:=fun j=>by rw[hY];simp
 have ys:w1.heap.size<Y.heap.size:=by rw[hY];simp
 clear hY;have kY:=k1.trans (Kept.of_below (R:=R) hbY);have eY:=e1.later hbY;have hY1:=h1.of_below hbY;refine (a0X R A ws _ _ Y hY1).mono ?_;rintro e w2 ⟨rfl,n,hw2⟩;have HM:Hid (a1b ws.length (tkN ws st.1 st.2 fun s=>Txt.a1j s.data.toList) (tkW ws st.1 st.2 fun s=>Txt.a1j s.data.toList)=true):=hm;rw[HM.out];have h2:=hY1.drewN n;rw[<- hw2] at h2;have k2:Kept R X w2:=by rw[hw2];exact kY.drewN n
 have e2:Env w2:=by rw[hw2];exact eY.drewN n
 have v0:w2.cell? ⟨w1.heap.size,0,none⟩=some (.string (tkS ws st.1 st.2)):=by rw[hw2];exact v0
 have v1:w2.cell? ⟨w1.heap.size,1,none⟩=some (.bool false):=by rw[hw2];exact v1
 have v2:w2.cell? ⟨w1.heap.size,2,none⟩=some (.int .i64 0):=by rw[hw2];exact v2
 have v3:w2.cell? ⟨w1.heap.size,3,none⟩=some (.int .i64 0):=by rw[hw2];exact v3
 have vf:∀ j:Nat,w2.frozen? ⟨w1.heap.size,j,none⟩=false:=fun j=>by rw[hw2];exact vf j
 have ys2:w1.heap.size<w2.heap.size:=by rw[hw2];exact ys
 have HHM:=hide hm;clear hw2 hY1 eY kY hbY ys h1 hm;have H2:=hide h2;have HE2:=hide e2;clear h2 e2 eX e1
 go_wp2_with fail
 have ne:w1.heap.size≠R:=by omega
 have hs1:=(a0d H2).other (b:=w1.heap.size) (o:=1) (v:=.bool true) ne (fun hl=>by have:=hAl hl;omega);obtain⟨Z,hZ⟩:∃ Z,Z=w2.setCell ⟨w1.heap.size,1,none⟩ (.bool true):=⟨_,rfl⟩;rw[<- hZ] at hs1 ⊢;have u0:Z.cell? ⟨w1.heap.size,0,none⟩=some (.string (tkS ws st.1 st.2)):=by rw[hZ];exact (zS _ _ _ _ (by simp)).trans v0
 have u1:Z.cell? ⟨w1.heap.size,1,none⟩=some (.bool true):=by rw[hZ];exact zm _ _ _ v1
 have u2:Z.cell? ⟨w1.heap.size,2,none⟩=some (.int .i64 0):=by rw[hZ];exact (zS _ _ _ _ (by simp)).trans v2
 have u3:Z.cell? ⟨w1.heap.size,3,none⟩=some (.int .i64 0):=by rw[hZ];exact (zS _ _ _ _ (by simp)).trans v3
 have uf:∀ j:Nat,Z.frozen? ⟨w1.heap.size,j,none⟩=false:=fun j=>by rw[hZ];exact (zF ..).trans (vf j)
 have kZ:Kept R X Z:=by rw[hZ];exact k2.setNew (by omega) _
 have zs:w1.heap.size<Z.heap.size:=by rw[hZ];simpa using ys2
 have eZ:Env Z:=(a0d HE).kept (((Kept.of_below (R:=R) hb)).trans kZ) hR;clear hZ v0 v1 v2 v3 vf;refine (a6F R A ws _ _ Z hs1 eZ hR).mono ?_;rintro e w3 ⟨rfl,h3,k3⟩;have kk:=kZ.trans k3;have y0:=kk.cell (b:=w.heap.size) (o:=0) (by omega) x0;have y1:=kk.cell (b:=w.heap.size) (o:=1) (by omega) x1;have y2:=kk.cell (b:=w.heap.size) (o:=2) (by omega) x2;have y3:=kk.cell (b:=w.heap.size) (o:=3) (by omega) x3;have yf:∀ j:Nat,w3.frozen? ⟨w.heap.size,j,none⟩=false:=fun j=>(kk.frozen (by omega) xs).trans (xf j)
 have q0:=k3.cell (b:=w1.heap.size) (o:=0) ne u0;have q1:=k3.cell (b:=w1.heap.size) (o:=1) ne u1;have q2:=k3.cell (b:=w1.heap.size) (o:=2) ne u2;have q3:=k3.cell (b:=w1.heap.size) (o:=3) ne u3;have qf:∀ j:Nat,w3.frozen? ⟨w1.heap.size,j,none⟩=false:=fun j=>(k3.frozen ne zs).trans (uf j)
 have kt:=(Kept.of_below (R:=R) hb).trans kk;have H3:=hide h3;have n12:w.heap.size≠w1.heap.size:=by omega
 have n21:w1.heap.size≠w.heap.size:=by omega
 clear h3 hs1 eZ x0 x1 x2 x3 xf u0 u1 u2 u3 uf;go_wp2;refine bodyPost_ret (v:=.agg #[.string (a2F ws st),.bool true,.int .i64 (a0v ws (a0M ws [nmB] st) a0n a1J),.int .i64 (a0v ws (a0M ws [nmB,a0n] st) a0n a1J)]) (by simp[results,Tryz.results89,go_sem,y0,y1,y2,y3];exact⟨rfl,rfl,rfl⟩) rfl ⟨rfl,?_,?_⟩
 ·exact ((((((a0d H3).other (by omega) (fun hl=>by have:=hAl hl;omega)).other (by omega) (fun hl=>by have:=hAl hl;omega)).other (by omega) (fun hl=>by have:=hAl hl;omega)).other (by omega) (fun hl=>by have:=hAl hl;omega)).other (by omega) (fun hl=>by have:=hAl hl;omega)).other (by omega) (fun hl=>by have:=hAl hl;omega)
 ·exact (((((kt.setNew (by omega) _).setNew (by omega) _).setNew (zq _) _).setNew (zq _) _).setNew (zq _) _).setNew (zq _) _
def b0Y:ByteArray:=⟨#[100,97,105,108,121]⟩
def a8D:ByteArray:=⟨#[119,101,101,107,108,121]⟩
def a8w:ByteArray:=⟨#[109,111,110,116,104,108,121]⟩
def b2z:ByteArray:=⟨#[116,105,109,101,115]⟩
def b5O:ByteArray:=⟨#[117,110,116,105,108]⟩
def a1t:ByteArray:=⟨#[102,114,111,109]⟩
def atW:ByteArray:=⟨#[97,116]⟩
def b3z:ByteArray:=⟨#[102,111,114]⟩
def evB(s:ByteArray):Bool:=a0K s 1 99
def miB(s:ByteArray):Bool:=a0K s 1 1048320
def a1s(x s:ByteArray):Bool:=s.toList==x.toList
def nxt(st:Nat × Bool):Nat × Bool:=(st.1+1,st.2)
inductive b0n (ws:List ByteArray) (st:Nat × Bool):Int->Int->List Int->Nat × Bool->Prop where
 |daily (h:isB ws st.1 st.2 b0Y=true):b0n ws st 1 (a0v ws (nxt st) evB nvF) [] (a0M ws [evB] (nxt st))
 |weekly (h1:isB ws st.1 st.2 b0Y=false) (h:isB ws st.1 st.2 a8D=true) (acc:List Int) (ha:tkB ws (a0M ws [evB] (nxt st)).1 (a0M ws [evB] (nxt st)).2 Txt.onB=true->Txt.onW (ws.getD (a0M ws [evB] (nxt st)).1 ByteArray.empty)=some acc):
   b0n ws st 2 (a0v ws (nxt st) evB nvF) acc (a0M ws [evB,Txt.onB] (nxt st))
 |monthly (h1:isB ws st.1 st.2 b0Y=false) (h2:isB ws st.1 st.2 a8D=false) (h:isB ws st.1 st.2 a8w=true):b0n ws st 3 (a0v ws (nxt st) evB nvF) [] (a0M ws [evB] (nxt st))
 |none (h1:isB ws st.1 st.2 b0Y=false) (h2:isB ws st.1 st.2 a8D=false) (h:isB ws st.1 st.2 a8w=false):b0n ws st 0 0 [] (st.1,true)
inductive c3M (ws:List ByteArray) (st:Nat × Bool):Int->Int->Nat × Bool->Prop where
 |times (h:isB ws st.1 st.2 b2z=true):c3M ws st (a0v ws (nxt st) evB nvF) 0 (a0M ws [evB] (nxt st))
 |til (h1:isB ws st.1 st.2 b2z=false) (h:isB ws st.1 st.2 b5O=true):c3M ws st 0 (a0v ws (nxt st) Txt.a2y b0a) (a0M ws [Txt.a2y] (nxt st))
 |none (h1:isB ws st.1 st.2 b2z=false) (h:isB ws st.1 st.2 b5O=false):c3M ws st 0 0 (st.1,true)
def c4Y(ws:List ByteArray)(s:Nat × Bool):Nat × Bool:=a0M ws [a1s a1t,Txt.a2y,a1s atW,Txt.a3a,a1s b3z,miB] s
inductive b0m (ws:List ByteArray) (st:Nat × Bool):Int->Int->List Int->Int->Int->Int->Int->Int->Nat × Bool->Prop where
 |mk (pc ev:Int) (acc:List Int) (s:Nat × Bool) (ti un:Int) (s':Nat × Bool) (hp:b0n ws st pc ev acc s) (he:c3M ws (c4Y ws s) ti un s'):
   b0m ws st pc ev acc (a0v ws (a0M ws [a1s a1t] s) Txt.a2y b0a) (a0v ws (a0M ws [a1s a1t,Txt.a2y,a1s atW] s) Txt.a3a Txt.a6J) (a0v ws (a0M ws [a1s a1t,Txt.a2y,a1s atW,Txt.a3a,a1s b3z] s) miB nvF) ti un s'
def b9E(pc ev:Int)(acc:List Int)(fr mn mi ti un:Int):Value :=
 .agg #[.int .i64 pc,.int .i64 ev,.bool (isd acc 0),.bool (isd acc 1),.bool (isd acc 2),.bool (isd acc 3),.bool (isd acc 4),.bool (isd acc 5),.bool (isd acc 6),.int .i64 fr,.int .i64 mn,.int .i64 mi,.int .i64 ti,.int .i64 un]
def g3M(ws:List ByteArray):Prop:=∀ (R A:Nat)(st:Nat × Bool)(w:World),RS w R A ws st.1 st.2->Env w->10<=R ->
  Calls Tryz.prog 87 #[.pointer (some ⟨R,0,none⟩)] w fun e w' =>
   ∃ (pc ev:Int) (acc:List Int) (fr mn mi ti un:Int) (s:Nat × Bool),e=.returned (b9E pc ev acc fr mn mi ti un)/\b0m ws st pc ev acc fr mn mi ti un s/\RS w' R A ws s.1 s.2/\Kept R w w'
def a3F:ByteArray:=⟨#[116,104,105,110,103]⟩
def a9P:ByteArray:=⟨#[98,111,111,107]⟩
def b5f:ByteArray:=⟨#[104,111,108,100]⟩
def b4k:ByteArray:=⟨#[119,97,105,116]⟩
def a7l:ByteArray:=⟨#[115,101,114,105,101,115]⟩
def a4z:ByteArray:=⟨#[99,111,110,102,105,114,109]⟩
def a6m:ByteArray:=⟨#[99,97,110,99,101,108]⟩
def a5Q:ByteArray:=⟨#[108,105,115,116]⟩
def a5q:ByteArray:=⟨#[119,97,105,116,105,110,103]⟩
def a9a:ByteArray:=⟨#[112,101,97,107]⟩
def b5h:ByteArray:=⟨#[102,105,110,100]⟩
def a7M:ByteArray:=⟨#[101,120,112,97,110,100]⟩
def b4n:ByteArray:=⟨#[116,105,99,107]⟩
def b1c:ByteArray:=⟨#[99,108,111,99,107]⟩
def idB(s:ByteArray):Bool:=Txt.isNum s.data.toList
inductive a2H (ws:List ByteArray):Value->Nat × Bool->Prop where
 |a0k (h:isB ws 0 false a3F=true):a2H ws (.iface 149 (.agg #[.string (a2F ws (1,false)),.int .i64 (a0v ws (a0M ws [nmB] (1,false)) unB nvF)])) (a0M ws [nmB,unB] (1,false))
 |book (h:isB ws 0 false a9P=true):a2H ws (.iface 154 (.agg #[.string (a2F ws (1,false)),.int .i64 (a0v ws (a0M ws [nmB] (1,false)) unB nvF),.int .i64 (a0v ws (a0M ws [nmB,unB] (1,false)) a0n a1J),.int .i64 (a0v ws (a0M ws [nmB,unB,a0n] (1,false)) a0n a1J)])) (a0M ws [nmB,unB,a0n,a0n] (1,false))
 |hold (h:isB ws 0 false b5f=true):a2H ws (.iface 156 (.agg #[.string (a2F ws (1,false)),.int .i64 (a0v ws (a0M ws [nmB] (1,false)) unB nvF),.int .i64 (a0v ws (a0M ws [nmB,unB] (1,false)) a0n a1J),.int .i64 (a0v ws (a0M ws [nmB,unB,a0n] (1,false)) a0n a1J),.int .i64 (a0v ws (a0M ws [nmB,unB,a0n,a0n] (1,false)) miB nvF)])) (a0M ws [nmB,unB,a0n,a0n,miB] (1,false))
 |wait (h:isB ws 0 false b4k=true):a2H ws (.iface 157 (.agg #[.string (a2F ws (1,false)),.int .i64 (a0v ws (a0M ws [nmB] (1,false)) unB nvF),.int .i64 (a0v ws (a0M ws [nmB,unB] (1,false)) a0n a1J),.int .i64 (a0v ws (a0M ws [nmB,unB,a0n] (1,false)) a0n a1J),.int .i64 (a0v ws (a0M ws [nmB,unB,a0n,a0n] (1,false)) miB nvF)])) (a0M ws [nmB,unB,a0n,a0n,miB] (1,false))
 |series (h:isB ws 0 false a7l=true) (pc ev:Int) (acc:List Int) (fr mn mi ti un:Int) (s:Nat × Bool) (hr:b0m ws (a0M ws [nmB,unB] (1,false)) pc ev acc fr mn mi ti un s):a2H ws (.iface 165 (.agg #[.string (a2F ws (1,false)),.int .i64 (a0v ws (a0M ws [nmB] (1,false)) unB nvF),.int .i64 pc,.int .i64 ev,.bool (isd acc 0),.bool (isd acc 1),.bool (isd acc 2),.bool (isd acc 3),.bool (isd acc 4),.bool (isd acc 5),.bool (isd acc 6),.int .i64 fr,.int .i64 mn,.int .i64 mi,.int .i64 ti,.int .i64 un])) s
 |confirm (h:isB ws 0 false a4z=true):a2H ws (.iface 167 (.agg #[.int .i64 (a0v ws (1,false) idB nvF)])) (a0M ws [idB] (1,false))
 |cancel (h:isB ws 0 false a6m=true):a2H ws (.iface 168 (.agg #[.int .i64 (a0v ws (1,false) idB nvF)])) (a0M ws [idB] (1,false))
 |list0 (h:isB ws 0 false a5Q=true) (hm:a1b ws.length (a0M ws [nmB] (1,false)).1 (a0M ws [nmB] (1,false)).2=false):a2H ws (.iface 170 (.agg #[.string (a2F ws (1,false)),.bool false,.int .i64 0,.int .i64 0])) (a0M ws [nmB] (1,false))
 |list1 (h:isB ws 0 false a5Q=true) (hm:a1b ws.length (a0M ws [nmB] (1,false)).1 (a0M ws [nmB] (1,false)).2=true):a2H ws (.iface 170 (.agg #[.string (a2F ws (1,false)),.bool true,.int .i64 (a0v ws (a0M ws [nmB] (1,false)) a0n a1J),.int .i64 (a0v ws (a0M ws [nmB,a0n] (1,false)) a0n a1J)])) (a0M ws [nmB,a0n,a0n] (1,false))
 |waiting (h:isB ws 0 false a5q=true):a2H ws (.iface 173 (.agg #[])) (1,false)
 |peak (h:isB ws 0 false a9a=true):a2H ws (.iface 176 (.agg #[.string (a2F ws (1,false)),.int .i64 (a0v ws (a0M ws [nmB] (1,false)) a0n a1J),.int .i64 (a0v ws (a0M ws [nmB,a0n] (1,false)) a0n a1J)])) (a0M ws [nmB,a0n,a0n] (1,false))
 |find (h:isB ws 0 false b5h=true):a2H ws (.iface 178 (.agg #[.string (a2F ws (1,false)),.int .i64 (a0v ws (a0M ws [nmB] (1,false)) unB nvF),.int .i64 (a0v ws (a0M ws [nmB,unB] (1,false)) miB nvF),.int .i64 (a0v ws (a0M ws [nmB,unB,miB] (1,false)) a0n a1J),.int .i64 (a0v ws (a0M ws [nmB,unB,miB,a0n] (1,false)) a0n a1J)])) (a0M ws [nmB,unB,miB,a0n,a0n] (1,false))
 |expand (h:isB ws 0 false a7M=true) (pc ev:Int) (acc:List Int) (fr mn mi ti un:Int) (s:Nat × Bool) (hr:b0m ws (1,false) pc ev acc fr mn mi ti un s):a2H ws (.iface 180 (.agg #[.int .i64 pc,.int .i64 ev,.bool (isd acc 0),.bool (isd acc 1),.bool (isd acc 2),.bool (isd acc 3),.bool (isd acc 4),.bool (isd acc 5),.bool (isd acc 6),.int .i64 fr,.int .i64 mn,.int .i64 mi,.int .i64 ti,.int .i64 un])) s
 |tick (h:isB ws 0 false b4n=true):a2H ws (.iface 182 (.agg #[.int .i64 (a0v ws (1,false) miB nvF)])) (a0M ws [miB] (1,false))
 |clock (h:isB ws 0 false b1c=true):a2H ws (.iface 183 (.agg #[])) (1,false)
 |none (h0:isB ws 0 false a3F=false) (h1:isB ws 0 false a9P=false) (h2:isB ws 0 false b5f=false) (h3:isB ws 0 false b4k=false) (h4:isB ws 0 false a7l=false) (h5:isB ws 0 false a4z=false) (h6:isB ws 0 false a6m=false) (h7:isB ws 0 false a5Q=false) (h8:isB ws 0 false a5q=false) (h9:isB ws 0 false a9a=false) (h10:isB ws 0 false b5h=false) (h11:isB ws 0 false a7M=false) (h12:isB ws 0 false b4n=false) (h13:isB ws 0 false b1c=false):a2H ws .nilIface (0,true)
theorem f1j(R A:Nat)(ws:List ByteArray)(w:World)(h:RS w R A ws 0 false)(he:Env w)(hR:10<=R)(hP:isB ws 0 false a7l=true\/isB ws 0 false a7M=true->g3M ws):
  Calls Tryz.prog 62 #[.pointer (some ⟨R,0,none⟩)] w fun e w' =>
   ∃ (v:Value) (s:Nat × Bool),e=.returned v/\a2H ws v s/\RS w' R A ws s.1 s.2/\Kept R w w':=by
 have HE:=hide he;have HPP:=hide hP;clear he hP;have k0:=Kept.refl R w;have h0:=h;clear h
 go_enter Tryz.func62,Tryz.ntmps62
 go_wp2_with fail
 refine (a2n R A ws 0 false a3F w h0).mono ?_;rintro e w1 ⟨rfl,h1,kq⟩;have k1:=k0.trans kq;clear kq k0 h0;rcases Bool.eq_false_or_eq_true (isB ws 0 false a3F) with hb0|hb0
 ·rw[hb0,if_pos rfl] at h1;have E1:=hide ((a0d HE).kept k1 hR)
  go_wp2_with fail
  refine (a3v R A ws _ _ w1 h1).mono ?_;rintro e w1a ⟨rfl,h1a,kq⟩;have k1a:=k1.trans kq;have E1a:=hide ((a0d E1).kept kq hR);clear kq k1 h1 E1
  go_wp2_with fail
  refine (a5v R A ws _ _ w1a h1a).mono ?_;rintro e w1b ⟨rfl,h1b,kq⟩;have k1b:=k1a.trans kq;have E1b:=hide ((a0d E1a).kept kq hR);clear kq k1a h1a E1a;have HK:=hide k1b;have HH:=hide h1b;go_wp2;go_ret;exact⟨_,(a0M ws [nmB,unB] (1,false)),rfl,.a0k hb0,HH.out,HK.out⟩
 rw[hb0] at h1 ⊢
 go_wp2_with fail
 refine (a2n R A ws 0 false a9P w1 h1).mono ?_;rintro e w2 ⟨rfl,h2,kq⟩;have k2:=k1.trans kq;clear kq k1 h1;rcases Bool.eq_false_or_eq_true (isB ws 0 false a9P) with hb1|hb1
 ·rw[hb1,if_pos rfl] at h2;have E2:=hide ((a0d HE).kept k2 hR)
  go_wp2_with fail
  refine (a7w R A ws (1,false) w2 h2 (a0d E2) hR).mono ?_;rintro e w2a ⟨rfl,h2a,kq⟩;have k2a:=k2.trans kq;have E2a:=hide ((a0d E2).kept kq hR);clear kq k2 h2 E2;have HK:=hide k2a;have HH:=hide h2a;go_wp2;go_ret;exact⟨_,(a0M ws [nmB,unB,a0n,a0n] (1,false)),rfl,.book hb1,HH.out,HK.out⟩
 rw[hb1] at h2 ⊢
 go_wp2_with fail
 refine (a2n R A ws 0 false b5f w2 h2).mono ?_;rintro e w3 ⟨rfl,h3,kq⟩;have k3:=k2.trans kq;clear kq k2 h2;rcases Bool.eq_false_or_eq_true (isB ws 0 false b5f) with hb2|hb2
 ·rw[hb2,if_pos rfl] at h3;have E3:=hide ((a0d HE).kept k3 hR)
  go_wp2_with fail
  refine (a7w R A ws (1,false) w3 h3 (a0d E3) hR).mono ?_;rintro e w3a ⟨rfl,h3a,kq⟩;have k3a:=k3.trans kq;have E3a:=hide ((a0d E3).kept kq hR);clear kq k3 h3 E3
  go_wp2_with fail
  refine (a2S R A ws _ _ w3a h3a).mono ?_;rintro e w3b ⟨rfl,h3b,kq⟩;have k3b:=k3a.trans kq;have E3b:=hide ((a0d E3a).kept kq hR);clear kq k3a h3a E3a;have HK:=hide k3b;have HH:=hide h3b;go_wp2;go_ret;exact⟨_,(a0M ws [nmB,unB,a0n,a0n,miB] (1,false)),rfl,.hold hb2,HH.out,HK.out⟩
 rw[hb2] at h3 ⊢
 go_wp2_with fail
 refine (a2n R A ws 0 false b4k w3 h3).mono ?_;rintro e w4 ⟨rfl,h4,kq⟩;have k4:=k3.trans kq;clear kq k3 h3;rcases Bool.eq_false_or_eq_true (isB ws 0 false b4k) with hb3|hb3
 ·rw[hb3,if_pos rfl] at h4;have E4:=hide ((a0d HE).kept k4 hR)
  go_wp2_with fail
  refine (a7w R A ws (1,false) w4 h4 (a0d E4) hR).mono ?_;rintro e w4a ⟨rfl,h4a,kq⟩;have k4a:=k4.trans kq;have E4a:=hide ((a0d E4).kept kq hR);clear kq k4 h4 E4
  go_wp2_with fail
  refine (a2S R A ws _ _ w4a h4a).mono ?_;rintro e w4b ⟨rfl,h4b,kq⟩;have k4b:=k4a.trans kq;have E4b:=hide ((a0d E4a).kept kq hR);clear kq k4a h4a E4a;have HK:=hide k4b;have HH:=hide h4b;go_wp2;go_ret;exact⟨_,(a0M ws [nmB,unB,a0n,a0n,miB] (1,false)),rfl,.wait hb3,HH.out,HK.out⟩
 rw[hb3] at h4 ⊢
 go_wp2_with fail
 refine (a2n R A ws 0 false a7l w4 h4).mono ?_;rintro e w5 ⟨rfl,h5,kq⟩;have k5:=k4.trans kq;clear kq k4 h4;rcases Bool.eq_false_or_eq_true (isB ws 0 false a7l) with hb4|hb4
 ·rw[hb4,if_pos rfl] at h5;have E5:=hide ((a0d HE).kept k5 hR)
  go_wp2_with fail
  refine (a3v R A ws _ _ w5 h5).mono ?_;rintro e w5a ⟨rfl,h5a,kq⟩;have k5a:=k5.trans kq;have E5a:=hide ((a0d E5).kept kq hR);clear kq k5 h5 E5
  go_wp2_with fail
  refine (a5v R A ws _ _ w5a h5a).mono ?_;rintro e w5b ⟨rfl,h5b,kq⟩;have k5b:=k5a.trans kq;have E5b:=hide ((a0d E5a).kept kq hR);clear kq k5a h5a E5a
  go_wp2_with fail
  refine (a0d HPP (.inl hb4) R A (a0M ws [nmB,unB] (1,false)) w5b h5b (a0d E5b) hR).mono ?_;rintro e w5c ⟨pc,ev,acc,fr,mn,mi,ti,un,s,rfl,hr,h5c,kq⟩;have HR:=hide hr;clear hr;simp only[b9E];have k5c:=k5b.trans kq;have E5c:=hide ((a0d E5b).kept kq hR);clear kq k5b h5b E5b;have HK:=hide k5c;have HH:=hide h5c;go_wp2;go_ret;exact⟨_,s,rfl,.series hb4 pc ev acc fr mn mi ti un s HR.out,HH.out,HK.out⟩
 rw[hb4] at h5 ⊢
 go_wp2_with fail
 refine (a2n R A ws 0 false a4z w5 h5).mono ?_;rintro e w6 ⟨rfl,h6,kq⟩;have k6:=k5.trans kq;clear kq k5 h5;rcases Bool.eq_false_or_eq_true (isB ws 0 false a4z) with hb5|hb5
 ·rw[hb5,if_pos rfl] at h6;have E6:=hide ((a0d HE).kept k6 hR)
  go_wp2_with fail
  refine (b9J R A ws _ _ w6 h6).mono ?_;rintro e w6a ⟨rfl,h6a,kq⟩;have k6a:=k6.trans kq;have E6a:=hide ((a0d E6).kept kq hR);clear kq k6 h6 E6;have HK:=hide k6a;have HH:=hide h6a;go_wp2;go_ret;exact⟨_,(a0M ws [idB] (1,false)),rfl,.confirm hb5,HH.out,HK.out⟩
 rw[hb5] at h6 ⊢
 go_wp2_with fail
 refine (a2n R A ws 0 false a6m w6 h6).mono ?_;rintro e w7 ⟨rfl,h7,kq⟩;have k7:=k6.trans kq;clear kq k6 h6;rcases Bool.eq_false_or_eq_true (isB ws 0 false a6m) with hb6|hb6
 ·rw[hb6,if_pos rfl] at h7;have E7:=hide ((a0d HE).kept k7 hR)
  go_wp2_with fail
  refine (b9J R A ws _ _ w7 h7).mono ?_;rintro e w7a ⟨rfl,h7a,kq⟩;have k7a:=k7.trans kq;have E7a:=hide ((a0d E7).kept kq hR);clear kq k7 h7 E7;have HK:=hide k7a;have HH:=hide h7a;go_wp2;go_ret;exact⟨_,(a0M ws [idB] (1,false)),rfl,.cancel hb6,HH.out,HK.out⟩
 rw[hb6] at h7 ⊢
 go_wp2_with fail
 refine (a2n R A ws 0 false a5Q w7 h7).mono ?_;rintro e w8 ⟨rfl,h8,kq⟩;have k8:=k7.trans kq;clear kq k7 h7;rcases Bool.eq_false_or_eq_true (isB ws 0 false a5Q) with hb7|hb7
 ·rw[hb7,if_pos rfl] at h8;have E8:=hide ((a0d HE).kept k8 hR)
  cases hm:a1b ws.length (a0M ws [nmB] (1,false)).1 (a0M ws [nmB] (1,false)).2
  ·go_wp2_with fail
   refine (b9H R A ws (1,false) w8 h8 hm).mono ?_;rintro e wz ⟨rfl,hz,kz⟩;have HK:=hide (k8.trans kz);have HH:=hide hz;have HM:=hide hm;clear hz kz hm k8 h8;go_wp2;go_ret;exact⟨_,(a0M ws [nmB] (1,false)),rfl,.list0 hb7 HM.out,HH.out,HK.out⟩
  ·go_wp2_with fail
   refine (b7W R A ws (1,false) w8 h8 (a0d E8) hR hm).mono ?_;rintro e wz ⟨rfl,hz,kz⟩;have HK:=hide (k8.trans kz);have HH:=hide hz;have HM:=hide hm;clear hz kz hm k8 h8;go_wp2;go_ret;exact⟨_,(a0M ws [nmB,a0n,a0n] (1,false)),rfl,.list1 hb7 HM.out,HH.out,HK.out⟩
 rw[hb7] at h8 ⊢
 go_wp2_with fail
 refine (a2n R A ws 0 false a5q w8 h8).mono ?_;rintro e w9 ⟨rfl,h9,kq⟩;have k9:=k8.trans kq;clear kq k8 h8;rcases Bool.eq_false_or_eq_true (isB ws 0 false a5q) with hb8|hb8
 ·rw[hb8,if_pos rfl] at h9;have E9:=hide ((a0d HE).kept k9 hR);have HK:=hide k9;have HH:=hide h9;go_wp2;go_ret;exact⟨_,(1,false),rfl,.waiting hb8,HH.out,HK.out⟩
 rw[hb8] at h9 ⊢
 go_wp2_with fail
 refine (a2n R A ws 0 false a9a w9 h9).mono ?_;rintro e w10 ⟨rfl,h10,kq⟩;have k10:=k9.trans kq;clear kq k9 h9;rcases Bool.eq_false_or_eq_true (isB ws 0 false a9a) with hb9|hb9
 ·rw[hb9,if_pos rfl] at h10;have E10:=hide ((a0d HE).kept k10 hR)
  go_wp2_with fail
  refine (a3v R A ws _ _ w10 h10).mono ?_;rintro e w10a ⟨rfl,h10a,kq⟩;have k10a:=k10.trans kq;have E10a:=hide ((a0d E10).kept kq hR);clear kq k10 h10 E10
  go_wp2_with fail
  refine (a6F R A ws _ _ w10a h10a (a0d E10a) hR).mono ?_;rintro e w10b ⟨rfl,h10b,kq⟩;have k10b:=k10a.trans kq;have E10b:=hide ((a0d E10a).kept kq hR);clear kq k10a h10a E10a;have HK:=hide k10b;have HH:=hide h10b;go_wp2;go_ret;exact⟨_,(a0M ws [nmB,a0n,a0n] (1,false)),rfl,.peak hb9,HH.out,HK.out⟩
 rw[hb9] at h10 ⊢
 go_wp2_with fail
 refine (a2n R A ws 0 false b5h w10 h10).mono ?_;rintro e w11 ⟨rfl,h11,kq⟩;have k11:=k10.trans kq;clear kq k10 h10;rcases Bool.eq_false_or_eq_true (isB ws 0 false b5h) with hb10|hb10
 ·rw[hb10,if_pos rfl] at h11;have E11:=hide ((a0d HE).kept k11 hR)
  go_wp2_with fail
  refine (a3v R A ws _ _ w11 h11).mono ?_;rintro e w11a ⟨rfl,h11a,kq⟩;have k11a:=k11.trans kq;have E11a:=hide ((a0d E11).kept kq hR);clear kq k11 h11 E11
  go_wp2_with fail
  refine (a5v R A ws _ _ w11a h11a).mono ?_;rintro e w11b ⟨rfl,h11b,kq⟩;have k11b:=k11a.trans kq;have E11b:=hide ((a0d E11a).kept kq hR);clear kq k11a h11a E11a
  go_wp2_with fail
  refine (a2S R A ws _ _ w11b h11b).mono ?_;rintro e w11c ⟨rfl,h11c,kq⟩;have k11c:=k11b.trans kq;have E11c:=hide ((a0d E11b).kept kq hR);clear kq k11b h11b E11b
  go_wp2_with fail
  refine (a6F R A ws _ _ w11c h11c (a0d E11c) hR).mono ?_;rintro e w11d ⟨rfl,h11d,kq⟩;have k11d:=k11c.trans kq;have E11d:=hide ((a0d E11c).kept kq hR);clear kq k11c h11c E11c;have HK:=hide k11d;have HH:=hide h11d;go_wp2;go_ret;exact⟨_,(a0M ws [nmB,unB,miB,a0n,a0n] (1,false)),rfl,.find hb10,HH.out,HK.out⟩
 rw[hb10] at h11 ⊢
 go_wp2_with fail
 refine (a2n R A ws 0 false a7M w11 h11).mono ?_;rintro e w12 ⟨rfl,h12,kq⟩;have k12:=k11.trans kq;clear kq k11 h11;rcases Bool.eq_false_or_eq_true (isB ws 0 false a7M) with hb11|hb11
 ·rw[hb11,if_pos rfl] at h12;have E12:=hide ((a0d HE).kept k12 hR)
  go_wp2_with fail
  refine (a0d HPP (.inr hb11) R A (1,false) w12 h12 (a0d E12) hR).mono ?_;rintro e w12a ⟨pc,ev,acc,fr,mn,mi,ti,un,s,rfl,hr,h12a,kq⟩;have HR:=hide hr;clear hr;simp only[b9E];have k12a:=k12.trans kq;have E12a:=hide ((a0d E12).kept kq hR);clear kq k12 h12 E12;have HK:=hide k12a;have HH:=hide h12a;go_wp2;go_ret;exact⟨_,s,rfl,.expand hb11 pc ev acc fr mn mi ti un s HR.out,HH.out,HK.out⟩
 rw[hb11] at h12 ⊢
 go_wp2_with fail
 refine (a2n R A ws 0 false b4n w12 h12).mono ?_;rintro e w13 ⟨rfl,h13,kq⟩;have k13:=k12.trans kq;clear kq k12 h12;rcases Bool.eq_false_or_eq_true (isB ws 0 false b4n) with hb12|hb12
 ·rw[hb12,if_pos rfl] at h13;have E13:=hide ((a0d HE).kept k13 hR)
  go_wp2_with fail
  refine (a2S R A ws _ _ w13 h13).mono ?_;rintro e w13a ⟨rfl,h13a,kq⟩;have k13a:=k13.trans kq;have E13a:=hide ((a0d E13).kept kq hR);clear kq k13 h13 E13;have HK:=hide k13a;have HH:=hide h13a;go_wp2;go_ret;exact⟨_,(a0M ws [miB] (1,false)),rfl,.tick hb12,HH.out,HK.out⟩
 rw[hb12] at h13 ⊢
 go_wp2_with fail
 refine (a2n R A ws 0 false b1c w13 h13).mono ?_;rintro e w14 ⟨rfl,h14,kq⟩;have k14:=k13.trans kq;clear kq k13 h13;rcases Bool.eq_false_or_eq_true (isB ws 0 false b1c) with hb13|hb13
 ·rw[hb13,if_pos rfl] at h14;have E14:=hide ((a0d HE).kept k14 hR);have HK:=hide k14;have HH:=hide h14;go_wp2;go_ret;exact⟨_,(1,false),rfl,.clock hb13,HH.out,HK.out⟩
 rw[hb13] at h14 ⊢;have c2:=h14.c2;have f2:=h14.f2;go_wp2;go_ret;exact⟨_,(0,true),rfl,.none hb0 hb1 hb2 hb3 hb4 hb5 hb6 hb7 hb8 hb9 hb10 hb11 hb12 hb13,h14.bad,k14.setCell _ _⟩
theorem f4d{x s:ByteArray}(h:a1s x s=true):s=x:=by
 have e:s.toList=x.toList:=eq_of_beq h;rw[ByteArray.toList_eq,ByteArray.toList_eq] at e;exact Txt.a7x e
theorem c4A(h:n<ws.length)(hB:B (ws.getD n ByteArray.empty)=true):stp ws B (n,false)=(n+1,false):=by
 simp only[stp,tkN,tkW,tkB,a1b,hB,h,decide_true,Bool.not_false,Bool.and_self,if_true]
def g2m(w:ByteArray)(lo hi:Int):Bool:=decide (lo<=b4g w 1 7/\b4g w 1 7<=hi)
def g2B(sym w:ByteArray):Bool :=
 if sym.toList==[78,65,77,69] then Txt.a1j w.data.toList else
 if sym.toList==[85,78,73,84,83] then g2m w 1 9 else
 if sym.toList==[77,73,78,85,84,69,83] then g2m w 1 1048320 else
 if sym.toList==[69,86,69,82,89] then g2m w 1 99 else
 if sym.toList==[73,68] then decide (0<=b4g w 1 7) else
 if sym.toList==[84,73,77,69] then decide (0<=g2T w) else
 if sym.toList==[68,65,84,69] then decide (0<=g2R w/\g2R w<728) else
 if sym.toList==[77,73,78,85,84,69] then decide (0<=c5N w) else
 if sym.toList==[79,78] then Txt.onB w else
 sym.toList==w.toList
theorem f9e(sym w:ByteArray)(W:World)(hs:w.size<=160):
  Calls Tryz.prog 125 #[.string sym,.string w] W fun e w'=>e=.returned (.bool (g2B sym w))/\Below W.heap.size W w':=by
 cases c0:(sym.toList==[78,65,77,69])
 case true =>
  go_enter Tryz.func125,Tryz.ntmps125
  go_wp2_with fail
  refine (b0E w 1 7 W hs (by omega) (by omega)).mono ?_;rintro e w1 ⟨rfl,hb1⟩
  go_wp2_with fail
  refine (f4Z w _ hs).mono ?_;rintro e w2 ⟨rfl,rfl⟩;go_wp2;go_ret;exact⟨a2a (by simp[g2B,c0]),hb1⟩
 cases c1:(sym.toList==[85,78,73,84,83])
 case true =>
  have HF:Hid (g2B sym w=g2m w 1 9):=by show g2B sym w=_;simp[g2B,c0,c1]
  by_cases g1:1<=b4g w 1 7
  ·by_cases g2:b4g w 1 7<=9
   ·go_enter Tryz.func125,Tryz.ntmps125
    go_wp2_with fail
    refine (b0E w 1 7 W hs (by omega) (by omega)).mono ?_;rintro e w1 ⟨rfl,hb1⟩;go_wp2;go_ret;exact⟨a2a (by rw[HF.out,g2m,decide_eq_true ⟨g1,g2⟩]),hb1⟩
   ·go_enter Tryz.func125,Tryz.ntmps125
    go_wp2_with fail
    refine (b0E w 1 7 W hs (by omega) (by omega)).mono ?_;rintro e w1 ⟨rfl,hb1⟩;go_wp2;go_ret;exact⟨a2a (by rw[HF.out,g2m,decide_eq_false (by omega)];simp;omega),hb1⟩
  ·go_enter Tryz.func125,Tryz.ntmps125
   go_wp2_with fail
   refine (b0E w 1 7 W hs (by omega) (by omega)).mono ?_;rintro e w1 ⟨rfl,hb1⟩;go_wp2;go_ret;exact⟨a2a (by rw[HF.out,g2m,decide_eq_false (by omega)]),hb1⟩
 cases c2:(sym.toList==[77,73,78,85,84,69,83])
 case true =>
  have HF:Hid (g2B sym w=g2m w 1 1048320):=by show g2B sym w=_;simp[g2B,c0,c1,c2]
  by_cases g1:1<=b4g w 1 7
  ·by_cases g2:b4g w 1 7<=1048320
   ·go_enter Tryz.func125,Tryz.ntmps125
    go_wp2_with fail
    refine (b0E w 1 7 W hs (by omega) (by omega)).mono ?_;rintro e w1 ⟨rfl,hb1⟩;go_wp2;go_ret;exact⟨a2a (by rw[HF.out,g2m,decide_eq_true ⟨g1,g2⟩]),hb1⟩
   ·go_enter Tryz.func125,Tryz.ntmps125
    go_wp2_with fail
    refine (b0E w 1 7 W hs (by omega) (by omega)).mono ?_;rintro e w1 ⟨rfl,hb1⟩;go_wp2;go_ret;exact⟨a2a (by rw[HF.out,g2m,decide_eq_false (by omega)];simp;omega),hb1⟩
  ·go_enter Tryz.func125,Tryz.ntmps125
   go_wp2_with fail
   refine (b0E w 1 7 W hs (by omega) (by omega)).mono ?_;rintro e w1 ⟨rfl,hb1⟩;go_wp2;go_ret;exact⟨a2a (by rw[HF.out,g2m,decide_eq_false (by omega)]),hb1⟩
 cases c3:(sym.toList==[69,86,69,82,89])
 case true =>
  have HF:Hid (g2B sym w=g2m w 1 99):=by show g2B sym w=_;simp[g2B,c0,c1,c2,c3]
  by_cases g1:1<=b4g w 1 7
  ·by_cases g2:b4g w 1 7<=99
   ·go_enter Tryz.func125,Tryz.ntmps125
    go_wp2_with fail
    refine (b0E w 1 7 W hs (by omega) (by omega)).mono ?_;rintro e w1 ⟨rfl,hb1⟩;go_wp2;go_ret;exact⟨a2a (by rw[HF.out,g2m,decide_eq_true ⟨g1,g2⟩]),hb1⟩
   ·go_enter Tryz.func125,Tryz.ntmps125
    go_wp2_with fail
    refine (b0E w 1 7 W hs (by omega) (by omega)).mono ?_;rintro e w1 ⟨rfl,hb1⟩;go_wp2;go_ret;exact⟨a2a (by rw[HF.out,g2m,decide_eq_false (by omega)];simp;omega),hb1⟩
  ·go_enter Tryz.func125,Tryz.ntmps125
   go_wp2_with fail
   refine (b0E w 1 7 W hs (by omega) (by omega)).mono ?_;rintro e w1 ⟨rfl,hb1⟩;go_wp2;go_ret;exact⟨a2a (by rw[HF.out,g2m,decide_eq_false (by omega)]),hb1⟩
 cases c4:(sym.toList==[73,68])
 case true =>
  go_enter Tryz.func125,Tryz.ntmps125
  go_wp2_with fail
  refine (b0E w 1 7 W hs (by omega) (by omega)).mono ?_;rintro e w1 ⟨rfl,hb1⟩;go_wp2;go_ret;exact⟨a2a (by simp[g2B,c0,c1,c2,c3,c4]),hb1⟩
 cases c5:(sym.toList==[84,73,77,69])
 case true =>
  go_enter Tryz.func125,Tryz.ntmps125
  go_wp2_with fail
  refine (b0E w 1 7 W hs (by omega) (by omega)).mono ?_;rintro e w1 ⟨rfl,hb1⟩
  go_wp2_with fail
  refine (d0T w _ hs).mono ?_;rintro e w2 ⟨rfl,hb2⟩;have hbb:=hb1.trans (hb2.mono hb1.size);go_wp2;go_ret;exact⟨a2a (by simp[g2B,c0,c1,c2,c3,c4,c5]),hbb⟩
 cases c6:(sym.toList==[68,65,84,69])
 case true =>
  have HF:Hid (g2B sym w=decide (0<=g2R w/\g2R w<728)):=by show g2B sym w=_;simp[g2B,c0,c1,c2,c3,c4,c5,c6]
  by_cases g1:0<=g2R w
  ·by_cases g2:g2R w<728
   ·go_enter Tryz.func125,Tryz.ntmps125
    go_wp2_with fail
    refine (b0E w 1 7 W hs (by omega) (by omega)).mono ?_;rintro e w1 ⟨rfl,hb1⟩
    go_wp2_with fail
    refine (d4B w _ hs).mono ?_;rintro e w2 ⟨rfl,hb2⟩;have hbb:=hb1.trans (hb2.mono hb1.size);go_wp2;go_ret;exact⟨a2a (by rw[HF.out,decide_eq_true ⟨g1,g2⟩]),hbb⟩
   ·go_enter Tryz.func125,Tryz.ntmps125
    go_wp2_with fail
    refine (b0E w 1 7 W hs (by omega) (by omega)).mono ?_;rintro e w1 ⟨rfl,hb1⟩
    go_wp2_with fail
    refine (d4B w _ hs).mono ?_;rintro e w2 ⟨rfl,hb2⟩;have hbb:=hb1.trans (hb2.mono hb1.size);go_wp2;go_ret;exact⟨a2a (by rw[HF.out,decide_eq_false (by omega)];simp;omega),hbb⟩
  ·go_enter Tryz.func125,Tryz.ntmps125
   go_wp2_with fail
   refine (b0E w 1 7 W hs (by omega) (by omega)).mono ?_;rintro e w1 ⟨rfl,hb1⟩
   go_wp2_with fail
   refine (d4B w _ hs).mono ?_;rintro e w2 ⟨rfl,hb2⟩;have hbb:=hb1.trans (hb2.mono hb1.size);go_wp2;go_ret;exact⟨a2a (by rw[HF.out,decide_eq_false (by omega)]),hbb⟩
 cases c7:(sym.toList==[77,73,78,85,84,69])
 case true =>
  go_enter Tryz.func125,Tryz.ntmps125
  go_wp2_with fail
  refine (b0E w 1 7 W hs (by omega) (by omega)).mono ?_;rintro e w1 ⟨rfl,hb1⟩
  go_wp2_with fail
  refine (c5y w _ hs).mono ?_;rintro e w2 ⟨rfl,hb2⟩;have hbb:=hb1.trans (hb2.mono hb1.size);go_wp2;go_ret;exact⟨a2a (by simp[g2B,c0,c1,c2,c3,c4,c5,c6,c7]),hbb⟩
 cases c8:(sym.toList==[79,78])
 case true =>
  go_enter Tryz.func125,Tryz.ntmps125
  go_wp2_with fail
  refine (b0E w 1 7 W hs (by omega) (by omega)).mono ?_;rintro e w1 ⟨rfl,hb1⟩
  go_wp2_with fail
  refine (g0u w _ hs).mono ?_;rintro e w2 ⟨⟨acc,rfl,_⟩,hb2⟩;have hbb:=hb1.trans (hb2.mono hb1.size);unfold a3E;go_wp2;go_ret;exact⟨a2a (by simp[g2B,c0,c1,c2,c3,c4,c5,c6,c7,c8]),hbb.alloc (Nat.le_trans hb1.size hb2.size) _⟩
 go_enter Tryz.func125,Tryz.ntmps125
 go_wp2_with fail
 refine (b0E w 1 7 W hs (by omega) (by omega)).mono ?_;rintro e w1 ⟨rfl,hb1⟩;go_wp2;go_ret;exact⟨a2a (by simp[g2B,c0,c1,c2,c3,c4,c5,c6,c7,c8]),hb1⟩
def d3a(i:Nat):ByteArray:=match i with|0=>⟨#[100,97,105,108,121,32,69,86,69,82,89]⟩|1=>⟨#[119,101,101,107,108,121,32,69,86,69,82,89,32,79,78]⟩|_=>⟨#[109,111,110,116,104,108,121,32,69,86,69,82,89]⟩
def e9S(i:Nat):ByteArray:=match i with|0=>⟨#[116,105,109,101,115,32,69,86,69,82,89]⟩|_=>⟨#[117,110,116,105,108,32,68,65,84,69]⟩
def g4G:ByteArray:=⟨#[32,102,114,111,109,32,68,65,84,69,32,97,116,32,77,73,78,85,84,69,32,102,111,114,32,77,73,78,85,84,69,83,32]⟩
def f3T(ahead:ByteArray)(i k:Nat):ByteArray:=ahead++⟨#[32]⟩++d3a i++g4G++e9S k
def d1g(ahead:ByteArray)(n:Nat):List ByteArray:=(List.range n).map fun j=>f3T ahead (j / 2) (j % 2)
theorem e6w(ahead:ByteArray)(n:Nat):d1g ahead (n+1)=d1g ahead n++[f3T ahead (n / 2) (n % 2)]:=by
 simp[d1g,List.range_succ]
theorem e4y(i:Nat):(d3a i).size<=15:=by unfold d3a;split <;> decide
theorem e9R(i:Nat):(e9S i).size<=11:=by unfold e9S;split <;> decide
theorem d4F(a b:ByteArray)(m n:Nat)(ha:a.size<=m)(hb:b.size<=n):(a++b).size<=m+n:=by
 have:(a++b).size=a.size+b.size:=ByteArray.size_append;omega
theorem e2I(a b:ByteArray)(m n:Nat)(ha:a.size<=m)(hb:b.size<=n)(h:m+n<=1000):∀ wx,(Op.stringOp .add a b).run Tryz.prog wx=.ok (.string (a++b)) wx:=by
 intro wx;apply run_string_add_sum;omega
theorem c9G{base base' e size:Nat}{xs:List Value}(h:w.ownsRow base e size v n xs)(hb:base'<=base):w.ownsRow base' e size v n xs:=by
 refine⟨h.1,?_⟩;rcases h.2 with h0|⟨g,cap,cur,hv,hg,rest⟩
 ·exact .inl h0
 ·exact .inr ⟨g,cap,cur,hv,Nat.le_trans hb hg,rest⟩
theorem e3P(ahead:ByteArray)(w:World)(ha:ahead.size<=20):
  Calls Tryz.prog 185 #[.string ahead] w fun e w'=>∃ v,e=.returned v/\w'.ownsRow w.heap.size 9 1 v 6 ((d1g ahead 6).map Value.string)/\Below w.heap.size w w':=by
 obtain⟨i0,hi0,hz0,hz1,hz2⟩:=info_parts e4B
 go_enter Tryz.func185,Tryz.ntmps185
 go_wp2;obtain⟨W,hW⟩:∃ W,W=(w.alloc (.cells #[.string (d3a 0),.string (d3a 1),.string (d3a 2)] 9)).alloc (.cells #[.string (e9S 0),.string (e9S 1)] 9):=⟨_,rfl⟩;simp only[d3a,e9S] at hW;rw[<- hW];have hB:Below w.heap.size w W:=by rw[hW];exact ((zr _ _).alloc (zq _) _).alloc (by simp) _
 have hZ:w.heap.size+2=W.heap.size:=by rw[hW];simp
 have cK:∀ i,i<3->W.cell? ⟨w.heap.size,i,none⟩=some (.string (d3a i)):=fun i hi=>by
  rw[hW];rcases (show i=0\/i=1\/i=2 by omega) with rfl|rfl|rfl <;> simp[d3a]
 have cE:∀ i,i<2->W.cell? ⟨w.heap.size+1,i,none⟩=some (.string (e9S i)):=fun i hi=>by
  rw[hW];rcases (show i=0\/i=1 by omega) with rfl|rfl <;> simp[e9S]
 have CK:=hide cK;have CE:=hide cE;clear hW cK cE
 go_loopw [3,6,7] (fun v i _ wx=>∃ a:Nat,a<=3/\i=.int .i64 a/\wx.ownsRow (w.heap.size+2) 9 1 v (2*a) ((d1g ahead (2*a)).map Value.string)/\Below (w.heap.size+2) W wx) (fun _ i _ _=>3-(intOf i).toNat)
 case atStart=>exact⟨0,by omega,rfl,World.ownsRow_nil _ _ _ _,Below.refl _ _⟩
 case round =>
  obtain⟨a,hka,rfl,hown,hnx⟩:=hrel
  by_cases hlt:a<3
  ·have i1:(0:Int)<=(a:Int):=Int.natCast_nonneg _;have i2:(a:Int)<3:=by omega
   go_wp2;obtain⟨wo,hwo⟩:∃ wo:World,wo=wr:=⟨_,rfl⟩;rw[<- hwo] at hown hnx ⊢;clear hwo
   go_loopw [3,7] (fun v k wx=>∃ b:Nat,b<=2/\k=.int .i64 b/\wx.ownsRow (w.heap.size+2) 9 1 v (2*a+b) ((d1g ahead (2*a+b)).map Value.string)/\Below (w.heap.size+2) W wx) (fun _ k _=>2-(intOf k).toNat)
   case atStart=>exact⟨0,by omega,rfl,hown,hnx⟩
   case round =>
    obtain⟨b,hkb,rfl,hown2,hnx2⟩:=hrel
    by_cases hlb:b<2
    ·have kz:=e4y a;have ez:=e9R b;have c1:wr.cell? ⟨w.heap.size,a,none⟩=some (.string (d3a a)):=(hnx2.cell (p:=⟨w.heap.size,a,none⟩) (by simp)).trans (a0d CK a hlt);have c2:wr.cell? ⟨w.heap.size+1,b,none⟩=some (.string (e9S b)):=(hnx2.cell (p:=⟨w.heap.size+1,b,none⟩) (by simp)).trans (a0d CE b hlb);have i3:(0:Int)<=(b:Int):=Int.natCast_nonneg _;have i4:(b:Int)<2:=by omega
     have ne1:u3.ownBlock≠some w.heap.size:=fun e=>by have:=d0U hown2 e;omega
     have ne2:u3.ownBlock≠some (w.heap.size+1):=fun e=>by have:=d0U hown2 e;omega
     have hwz:=hnx2.size;have s1:∀ wx,(Op.stringOp .add ahead ⟨#[32]⟩).run Tryz.prog wx=.ok (.string (ahead++⟨#[32]⟩)) wx:=e2I ahead _ 20 1 ha (by decide) (by decide);have s2:∀ wx,(Op.stringOp .add (ahead++⟨#[32]⟩) (d3a a)).run Tryz.prog wx=.ok (.string (ahead++⟨#[32]⟩++d3a a)) wx:=e2I _ _ 21 15 (d4F _ _ 20 1 ha (by decide)) kz (by decide);have s3:∀ wx,(Op.stringOp .add (ahead++⟨#[32]⟩++d3a a) ⟨#[32,102,114,111,109,32,68,65,84,69,32,97,116,32,77,73,78,85,84,69,32,102,111,114,32,77,73,78,85,84,69,83,32]⟩).run Tryz.prog wx=.ok (.string (ahead++⟨#[32]⟩++d3a a++⟨#[32,102,114,111,109,32,68,65,84,69,32,97,116,32,77,73,78,85,84,69,32,102,111,114,32,77,73,78,85,84,69,83,32]⟩)) wx:=e2I _ _ 36 33 (d4F _ _ 21 15 (d4F _ _ 20 1 ha (by decide)) kz) (by decide) (by decide);have s4:∀ wx,(Op.stringOp .add (ahead++⟨#[32]⟩++d3a a++⟨#[32,102,114,111,109,32,68,65,84,69,32,97,116,32,77,73,78,85,84,69,32,102,111,114,32,77,73,78,85,84,69,83,32]⟩) (e9S b)).run Tryz.prog wx=.ok (.string (ahead++⟨#[32]⟩++d3a a++⟨#[32,102,114,111,109,32,68,65,84,69,32,97,116,32,77,73,78,85,84,69,32,102,111,114,32,77,73,78,85,84,69,83,32]⟩++e9S b)) wx:=e2I _ _ 69 11 (d4F _ _ 36 33 (d4F _ _ 21 15 (d4F _ _ 20 1 ha (by decide)) kz) (by decide)) ez (by decide)
     go_wp2_with fail
     go_region_held3 (fun w'=>w'.cell? ⟨w.heap.size,a,none⟩=some (.string (d3a a))/\w'.cell? ⟨w.heap.size+1,b,none⟩=some (.string (e9S b)))
      (first
       |go_keep
       |(
        go_split_ands
        refine⟨?_,?_⟩
        ·(rw[hgrow.cell_far _ (by simp;omega) (Ne.symm ne1)];assumption)
        ·(rw[hgrow.cell_far _ (by simp;omega) (Ne.symm ne2)];assumption)))
      ((refine step_append_lies _ (by rfl) _ _ _ (by rfl) (w.heap.size+2) 9 i0 _ 1 16 Tryz.underlying26 hi0 hz0 hz1 hz2 rfl (by omega) u3 (2*a+b) ((d1g ahead (2*a+b)).map Value.string) (by rfl) ((hown2.alloc _).drew) ⟨wr.heap.size,0,none⟩ 1 1 [.string (ahead++⟨#[32]⟩++d3a a++⟨#[32,102,114,111,109,32,68,65,84,69,32,97,116,32,77,73,78,85,84,69,32,102,111,114,32,77,73,78,85,84,69,83,32]⟩++e9S b)] (by rfl) (by rfl) (World.news_of_block (cs:=#[.string (ahead++⟨#[32]⟩++d3a a++⟨#[32,102,114,111,109,32,68,65,84,69,32,97,116,32,77,73,78,85,84,69,32,102,111,114,32,77,73,78,85,84,69,83,32]⟩++e9S b)]) (t:=9) (fr:=(0,0)) (heap_alloc_new wr _)) (by simp[Value.oneCell']) (by omega) (by unfold maxLen;omega) (by omega) (by simp;omega) (wr.heap.size+1) (by simp) ?_;intro g cap w1 hown1 hgrow hat hltg))
     have hbw:Below (w.heap.size+2) W w1:=by
      first
       |exact ((hnx2.alloc (by omega) _).drew).grown hgrow (by simp;omega) (fun k hk=>d0U hown2 hk)
       |exact (hnx2.alloc (by omega) _).grown hgrow (by simp;omega) (fun k hk=>d0U hown2 hk)
     have HO:Hid (w1.ownsRow (w.heap.size+2) 9 1 (.slice (some ⟨g,0,none⟩) (2*a+b+1) cap) (2*a+(b+1)) ((d1g ahead (2*a+(b+1))).map Value.string)):=by
      show w1.ownsRow _ _ _ _ _ _;rw[show 2*a+(b+1)=2*a+b+1 from by omega,e6w,show (2*a+b) / 2=a from by omega,show (2*a+b) % 2=b from by omega,List.map_append];exact hown1
     clear hown1;go_wp2;refine⟨?_,?_⟩
     ·first|exact⟨b+1,by omega,by go_num,HO.out,hbw⟩|((repeat apply Exists.intro);exact⟨⟨b+1,by omega,by go_num,HO.out,hbw⟩,rfl⟩)
     ·simp[intOf];omega
    ·obtain rfl:b=2:=by omega
     have HO:Hid (wr.ownsRow (w.heap.size+2) 9 1 u3 (2*(a+1)) ((d1g ahead (2*(a+1))).map Value.string)):=by
      show wr.ownsRow _ _ _ _ _ _;rw[show 2*(a+1)=2*a+2 from by omega];exact hown2
     clear hown2;go_wp2;exact⟨⟨a+1,by omega,by go_num,HO.out,hnx2⟩,by simp[intOf];omega⟩
  ·obtain rfl:a=3:=by omega
   go_wp2;go_ret;exact⟨_,rfl,c9G hown (by omega),hB.trans (hnx.mono (by omega))⟩
end Go.Proofs.YtfigmlfdnickmaaGreatDoor
