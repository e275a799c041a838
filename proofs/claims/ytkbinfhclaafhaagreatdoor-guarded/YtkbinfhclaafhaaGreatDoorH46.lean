import Derived.Test.YtkbinfhclaafhaaGreatDoorH40
import Derived.Test.YtkbinfhclaafhaaGreatDoorH44
import Derived.Test.YtkbinfhclaafhaaGreatDoorH45
namespace Go.Proofs.YtkbinfhclaafhaaGreatDoor
open Go.ChangeShapes Go.WideShapes Go.ChangeAt Go.RowKit Go.Deep Go.Lib
set_option maxRecDepth 100000
theorem ad8(f:FuncId)(fn:Func)(hf:Tryz.pinned.checked.prog.funcNamed "bidiguard/bidiguardlaw.Guarded" =some f)(hfn:Tryz.pinned.checked.prog.funcs[f]? =some fn):
  true=Tryz.pinned.checked.prog.looks []/\∀(j:Nat) t,fn.params[j]? =some t->Tryz.pinned.checked.prog.wantsStandIn t=false:=by
 obtain rfl:f=11:=Option.some.inj ((show Tryz.prog.funcNamed "bidiguard/bidiguardlaw.Guarded" =some 11 by kernel_rfl).symm.trans hf)|>.symm;obtain rfl:fn=Tryz.f11:=(Option.some.inj (Tryz.func11.symm.trans hfn)).symm;refine⟨by kernel_rfl,fun j t ht=> ?_⟩;rw [Tryz.params11]at ht;obtain rfl:t=22:=by simpa using Array.mem_of_getElem? ht
 exact(show Tryz.prog.wantsStandIn 22=false by kernel_rfl)
theorem guarded_card:Rows.GuardedCardSaid:=
 Claim7.holds_tied_plain_at .later [] _ _ _ _ ad9 (fun _ h=>by cases h) (by kernel_rfl) (fun _ h=>by cases h) adz rfl ⟨rfl,rfl⟩ (by kernel_rfl) rfl ad8 adW
#print axioms guarded_card
end Go.Proofs.YtkbinfhclaafhaaGreatDoor
