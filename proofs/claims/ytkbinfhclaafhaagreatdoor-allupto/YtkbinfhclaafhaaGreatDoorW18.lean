import Derived.Test.YtkbinfhclaafhaaGreatDoorW17
namespace Go.Proofs.YtkbinfhclaafhaaGreatDoor
open Go.RowKit
set_option maxRecDepth 100000 in
theorem ajN(c:List o6)(b a d n:Nat)(w:World)(aL g f:Addr)(l:IY w aL g f)(t:c.length=n)(u:n<=1000000000000000)(p:F5 w b a c)(q:∀o∈c,AX w o):Calls Tryz.prog 12 #[.slice (some ⟨b,a,none⟩) n d] w λe j=>e= .returned (.bool true)/\Below w.1.size w j:=by
 have r:Hid (Calls Tryz.prog 13 #[.slice (some ⟨b,a,none⟩) n d,.int .i64 1,.int .i64 7] w λe j=>e= .returned (.int .i64 (-1))/\Below w.1.size w j):=
  atI c b a d n 1 7 w t u p λo v x y W m=>by
   have z:=l.below m;have k:=(q o v).below m;have i:o.s.size<=9223372036854775807:=Nat.le_trans k.1 (by decide);rcases(by omega:o.k=1∨o.k=2∨o.k=3∨o.k=4∨o.k=5∨o.k=6∨o.k=7)with h|h|h|h|h|h|h
   .exact aqQ o W aL g f h i z.env
   .exact aqR o W aL g f h i z.env z.br
   .exact aqS o W aL g f h i z.env z.br
   .exact aqT o W h z.pe z.low
   .exact aqU o W aL g f h ⟨z.env,z.br,z.mx,z.pe,z.low⟩
   .exact aqV o W aL g f h z
   exact aqP o W h k
 clear p l q;go_enter Tryz.func12,Tryz.ntmps12;go_wp2_with fail;refine r.out.mono ?_;rintro e A ⟨rfl,s⟩;go_wp2;go_ret;exact⟨rfl,s⟩
theorem ajO(b:Option Addr)(a:Nat)(w:World):Calls Tryz.prog 12 #[.slice b 0 a] w λe d=>e= .returned (.bool true)/\Below w.1.size w d:=by go_enter Tryz.func12,Tryz.ntmps12;go_wp2_with fail;refine(atJ b a 1 7 w).mono ?_;rintro e f ⟨rfl,c⟩;go_wp2;go_ret;exact⟨rfl,c⟩
end Go.Proofs.YtkbinfhclaafhaaGreatDoor
