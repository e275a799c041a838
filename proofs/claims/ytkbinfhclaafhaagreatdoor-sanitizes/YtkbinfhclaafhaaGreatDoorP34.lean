import Derived.Test.YtkbinfhclaafhaaGreatDoorP33
namespace Go.Proofs.YtkbinfhclaafhaaGreatDoor
open Go.RowKit
structure G5(w:World)(aL aT aC:Addr):Prop where
 env:Env w aL aT aC
 br:Br w
 mx:zk w
 pe:mR w
 low:10<=w.heap.size
 tz:qf w
theorem G5.below {w d:World}{aL c b:Addr}(h:G5 w aL c b)(a:Below w.heap.size w d):G5 d aL c b:=
 ⟨h.env.below a,h.br.below a,h.mx.below a,h.pe.below h.low a,Nat.le_trans h.low a.size,eu a h.tz⟩
set_option maxRecDepth 100000 in
set_option maxHeartbeats 2000000 in
theorem ao5(o:zm)(w:World)(aL i g:Addr)(l:o.k=6)(j:G5 w aL i g):
  Calls Tryz.prog 18 #[PU o] w λe f=>e= .returned (.bool true)/\Below w.heap.size w f:=by
 obtain⟨k,a,s,q⟩:=o;simp only at l;subst l;unfold PU;have m:Hid (∀W,Below w.heap.size w W->Calls Tryz.prog 33 #[.string s] W λe f=>e= .returned (.bool true)/\Below W.heap.size W f):=λW p=>by
  have h:=j.below p;exact anb s W aL i g h.env h.br h.mx h.pe h.low h.tz
 clear j;go_enter Tryz.func18,Tryz.ntmps18;have b:Below w.heap.size w (w.alloc (.cells #[.int .i64 6,.int .i64 a,.string s,q] 29)):=(Below.refl _ _).alloc (Nat.le_refl _) _;have d:Hid _:=b;clear b;go_wp2_with fail;refine(m.out _ d.out).mono ?_;rintro e r ⟨rfl,c⟩;have n:Hid (Below w.heap.size w r):=Below.trans d.out<|c.mono<|Below.size d.out;clear c;go_wp2;go_ret;exact⟨rfl,n.out⟩
theorem aqx(d:List zm)(b a c n:Nat)(w:World)(aL h g:Addr)(i:G5 w aL h g)(p:d.length=n)(q:n<=1000000000000000)(j:GW w b a d):
  Calls Tryz.prog 9 #[.slice (some ⟨b,a,none⟩) n c] w λe f=>e= .returned (.bool true)/\Below w.heap.size w f:=by
 have k:Hid (Calls Tryz.prog 13 #[.slice (some ⟨b,a,none⟩) n c,.int .i64 6,.int .i64 6] w λe f=>e= .returned (.int .i64 (-1))/\Below w.heap.size w f):=
  ar5 d b a c n 6 6 w p q j λo t r s W l=>ao5 o W aL h g (by omega)<|i.below l
 clear j i;go_enter Tryz.func9,Tryz.ntmps9;go_wp2_with fail;refine k.out.mono ?_;rintro e u ⟨rfl,m⟩;go_wp2;go_ret;exact⟨rfl,m⟩
theorem aqy(b:Option Addr)(a:Nat)(w:World):
  Calls Tryz.prog 9 #[.slice b 0 a] w λe d=>e= .returned (.bool true)/\Below w.heap.size w d:=by
 go_enter Tryz.func9,Tryz.ntmps9;go_wp2_with fail;refine(ar6 b a 6 6 w).mono ?_;rintro e f ⟨rfl,c⟩;go_wp2;go_ret;exact⟨rfl,c⟩
end Go.Proofs.YtkbinfhclaafhaaGreatDoor
