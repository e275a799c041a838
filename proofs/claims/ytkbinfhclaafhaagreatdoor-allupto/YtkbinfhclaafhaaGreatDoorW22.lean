import Derived.Test.YtkbinfhclaafhaaGreatDoorCards
import Derived.JoinedOf
namespace Go.Proofs.YtkbinfhclaafhaaGreatDoor
set_option maxRecDepth 100000
theorem ajH:false=Rows.allUptoRow.goesBy Tryz.pinned.checked.prog:=by kernel_rfl
end Go.Proofs.YtkbinfhclaafhaaGreatDoor
