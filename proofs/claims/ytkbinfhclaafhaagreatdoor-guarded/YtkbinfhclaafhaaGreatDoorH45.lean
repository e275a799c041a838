import Derived.Test.YtkbinfhclaafhaaGreatDoorRows
import Derived.Test.YtkbinfhclaafhaaGreatDoorCards
import Derived.JoinedOf
namespace Go.Proofs.YtkbinfhclaafhaaGreatDoor
set_option maxRecDepth 100000
theorem adW:false=Rows.guardedRow.goesBy Tryz.pinned.checked.prog:=by kernel_rfl
end Go.Proofs.YtkbinfhclaafhaaGreatDoor
