import Derived.Test.YtkbinfhclaafhaaGreatDoorZ33
import Derived.Test.YtkbinfhclaafhaaGreatDoorZ34
namespace Go.Proofs.YtkbinfhclaafhaaGreatDoor
open Go.ChangeShapes Go.WideShapes Go.ChangeAt Go.RowKit Go.Deep Go.Lib
set_option maxRecDepth 100000
theorem alZ(f:FuncId)(fn:Func)(hf:Tryz.pinned.checked.prog.funcNamed "bidiguard/bidiguardlaw.Safes" =some f)(hfn:Tryz.pinned.checked.prog.funcs[f]? =some fn):
  true=Tryz.pinned.checked.prog.looks []/\∀(j:Nat) t,fn.params[j]? =some t->Tryz.pinned.checked.prog.wantsStandIn t=false:=by
 obtain rfl:f=8:=Option.some.inj ((show Tryz.prog.funcNamed "bidiguard/bidiguardlaw.Safes" =some 8 by kernel_rfl).symm.trans hf)|>.symm;obtain rfl:fn=Tryz.f8:=(Option.some.inj (Tryz.func8.symm.trans hfn)).symm;refine⟨by kernel_rfl,fun j t ht=> ?_⟩;rw [Tryz.params8]at ht;obtain rfl:t=22:=by simpa using Array.mem_of_getElem? ht
 exact(show Tryz.prog.wantsStandIn 22=false by kernel_rfl)
theorem safes_card:Rows.SafesCardSaid:=
 Claim7.holds_tied_plain_at .later [] _ _ _ _ al0 (fun _ h=>by cases h) (by kernel_rfl) (fun _ h=>by cases h) safes_row_tie rfl ⟨rfl,rfl⟩ (by kernel_rfl) rfl alZ alP
#print axioms safes_card
end Go.Proofs.YtkbinfhclaafhaaGreatDoor
