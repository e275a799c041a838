import Derived.Test.YtkbinfhclaafhaaGreatDoorT07
import Derived.Test.YtkbinfhclaafhaaGreatDoorT08
namespace Go.Proofs.YtkbinfhclaafhaaGreatDoor
open Go.ChangeShapes Go.WideShapes Go.ChangeAt Go.RowKit Go.Deep Go.Lib
set_option maxRecDepth 100000
theorem turned_plain (f : FuncId) (fn : Func) (hf : Tryz.pinned.checked.prog.funcNamed "bidiguard/bidiguardlaw.Turned" = some f) (hfn : Tryz.pinned.checked.prog.funcs[f]? = some fn) :
  true = Tryz.pinned.checked.prog.looks [] ∧ ∀ (j : Nat) t, fn.params[j]? = some t → Tryz.pinned.checked.prog.wantsStandIn t = false := by
 obtain rfl : f = 6 := Option.some.inj ((show Tryz.prog.funcNamed "bidiguard/bidiguardlaw.Turned" = some 6 by kernel_rfl).symm.trans hf) |>.symm
 obtain rfl : fn = Tryz.f6 := (Option.some.inj (Tryz.func6.symm.trans hfn)).symm
 refine ⟨by kernel_rfl, fun j t ht => ?_⟩
 rw [Tryz.params6] at ht
 obtain rfl : t = 22 := by simpa using Array.mem_of_getElem? ht
 exact (show Tryz.prog.wantsStandIn 22 = false by kernel_rfl)
theorem turned_card : Rows.TurnedCardSaid :=
 Claim7.holds_tied_plain_at .later [] _ _ _ _ turned_said (fun _ h => by cases h) (by kernel_rfl) (fun _ h => by cases h) turned_row_tie rfl ⟨rfl, rfl⟩ (by kernel_rfl) rfl turned_plain turned_goes
#print axioms turned_card
end Go.Proofs.YtkbinfhclaafhaaGreatDoor
