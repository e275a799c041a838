import Derived.Test.YtkbinfhclaafhaaGreatDoorRows
import Derived.Test.YtkbinfhclaafhaaGreatDoorCards
import Derived.JoinedOf
namespace Go.Proofs.YtkbinfhclaafhaaGreatDoor
set_option maxRecDepth 100000
theorem parts_goes : false = Rows.partsRow.goesBy Tryz.pinned.checked.prog := by kernel_rfl
end Go.Proofs.YtkbinfhclaafhaaGreatDoor
