import Derived.Test.YtkbinfhclaafhaaGreatDoorW21
import Derived.Test.YtkbinfhclaafhaaGreatDoorW22
namespace Go.Proofs.YtkbinfhclaafhaaGreatDoor
open Go.ChangeShapes Go.WideShapes Go.ChangeAt Go.RowKit Go.Deep Go.Lib
set_option maxRecDepth 100000
theorem ajR(f:FuncId)(a:Func)(d:Tryz.pinned.checked.prog.funcNamed "bidiguard/bidiguardlaw.All" =some f)(b:Tryz.pinned.checked.prog.funcs[f]? =some a):
  true=Tryz.pinned.checked.prog.looks []/\∀(j:Nat) t,a.params[j]? =some t->Tryz.pinned.checked.prog.wantsStandIn t=false:=by
 obtain rfl:f=12:=Option.some.inj ((show Tryz.prog.funcNamed "bidiguard/bidiguardlaw.All" =some 12 by kernel_rfl).symm.trans d)|>.symm;obtain rfl:a=Tryz.f12:=(Option.some.inj<|Tryz.func12.symm.trans b).symm;refine⟨by kernel_rfl,λj t c=> ?_⟩;rw[Tryz.params12]at c;obtain rfl:t=22:=by simpa using Array.mem_of_getElem? c
 exact(show Tryz.prog.wantsStandIn 22=false by kernel_rfl)
theorem all_card:Rows.AllUptoCardSaid:=
 Claim7.holds_tied_plain_at .later [] _ _ _ _ ajT (λ_ h=>by cases h) (by kernel_rfl) (λ_ h=>by cases h) ajB rfl ⟨rfl,rfl⟩ (by kernel_rfl) rfl ajR ajH
#print axioms all_card
end Go.Proofs.YtkbinfhclaafhaaGreatDoor
