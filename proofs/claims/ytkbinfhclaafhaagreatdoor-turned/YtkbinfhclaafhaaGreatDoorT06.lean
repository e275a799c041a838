import Derived.Test.YtkbinfhclaafhaaGreatDoorRows
import Derived.JoinedOf
namespace Go.Proofs.YtkbinfhclaafhaaGreatDoor
set_option maxRecDepth 100000
theorem turned_j1 : (Rows.turnedRow.inPlace == Tryz.prog.inPlace 6) = true := by kernel_rfl
theorem turned_j2 : (Rows.turnedRow.unfollowed == Tryz.prog.unfollowed 6) = true := by kernel_rfl
theorem turned_j3 : (Rows.turnedRow.recurses == Tryz.prog.recurses 6) = true := by kernel_rfl
theorem turned_j4 : (Rows.turnedRow.named == Tryz.prog.varsNamed 6) = true := by kernel_rfl
theorem turned_joined : Go.joinedFacts Tryz.prog 6 Tryz.f6 Rows.turnedSpec Rows.turnedRow = true := by
 unfold Go.joinedFacts
 rw [turned_j1, turned_j2, turned_j3, turned_j4]
 kernel_rfl
end Go.Proofs.YtkbinfhclaafhaaGreatDoor
