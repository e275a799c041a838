import Derived.Test.YtkbinfhclaafhaaGreatDoorZ30
import Derived.Test.YtkbinfhclaafhaaGreatDoorZ19
namespace Go.Proofs.YtkbinfhclaafhaaGreatDoor
open Go.RowKit
structure Ew(w:World)(aL aT aC:Addr):Prop where
 env:Env w aL aT aC
 br:Br w
 mx:zY w
 pe:nL w
 low:10<=w.heap.size
theorem Ew.below {w w':World}{aL aT aC:Addr}(h:Ew w aL aT aC)(hb:Below w.heap.size w w'):Ew w' aL aT aC:=
 ⟨h.env.below hb,h.br.below hb,h.mx.below hb,h.pe.below h.low hb,Nat.le_trans h.low hb.size⟩
set_option maxRecDepth 100000 in
set_option maxHeartbeats 2000000 in
theorem akv(o:wS)(w:World)(aL aT aC:Addr)(hk:o.k=5)(hE:Ew w aL aT aC):
  Calls Tryz.prog 18 #[MC o] w fun e w'=>e= .returned (.bool true)/\Below w.heap.size w w':=by
 obtain⟨k,a,s,oe⟩:=o;simp only at hk;subst hk;unfold MC;have HP:Hid (∀W,Below w.heap.size w W->Calls Tryz.prog 32 #[.string s] W fun e w'=>e= .returned (.bool true)/\Below W.heap.size W w'):=fun W hW=>by
  have h:=hE.below hW;exact aiL s W aL aT aC h.env h.br h.mx h.pe h.low
 clear hE;go_enter Tryz.func18,Tryz.ntmps18;have hb0:Below w.heap.size w (w.alloc (.cells #[.int .i64 5,.int .i64 a,.string s,oe] 29)):=(Below.refl _ _).alloc (Nat.le_refl _) _;have mQ:Hid _:=hb0;clear hb0;go_wp2_with fail;refine(HP.out _ mQ.out).mono ?_;rintro e w1 ⟨rfl,hb1⟩;have aG:Hid (Below w.heap.size w w1):=Below.trans mQ.out (hb1.mono (Below.size mQ.out));clear hb1;go_wp2;go_ret;exact⟨rfl,aG.out⟩
theorem alV(ops:List wS)(b off cap n:Nat)(w:World)(aL aT aC:Addr)(hE:Ew w aL aT aC)(hl:ops.length=n)(hn:n<=1000000000000000)(hc:Ev w b off ops):
  Calls Tryz.prog 8 #[.slice (some ⟨b,off,none⟩) n cap] w fun e w'=>e= .returned (.bool true)/\Below w.heap.size w w':=by
 have HU:Hid (Calls Tryz.prog 13 #[.slice (some ⟨b,off,none⟩) n cap,.int .i64 5,.int .i64 5] w fun e w'=>e= .returned (.int .i64 (-1))/\Below w.heap.size w w'):=
  anD ops b off cap n 5 5 w hl hn hc fun o ho h1 h2 W hW=>akv o W aL aT aC (by omega) (hE.below hW)
 clear hc hE;go_enter Tryz.func8,Tryz.ntmps8;go_wp2_with fail;refine HU.out.mono ?_;rintro e w1 ⟨rfl,hb⟩;go_wp2;go_ret;exact⟨rfl,hb⟩
theorem alW(ao:Option Addr)(cap:Nat)(w:World):
  Calls Tryz.prog 8 #[.slice ao 0 cap] w fun e w'=>e= .returned (.bool true)/\Below w.heap.size w w':=by
 go_enter Tryz.func8,Tryz.ntmps8;go_wp2_with fail;refine(anE ao cap 5 5 w).mono ?_;rintro e w1 ⟨rfl,hb⟩;go_wp2;go_ret;exact⟨rfl,hb⟩
end Go.Proofs.YtkbinfhclaafhaaGreatDoor
