import Derived.Test.YtkbinfhclaafhaaGreatDoorRows
import Derived.JoinedOf
namespace Go.Proofs.YtkbinfhclaafhaaGreatDoor
set_option maxRecDepth 100000

theorem parts_j1 : (Rows.partsRow.inPlace == Tryz.prog.inPlace 7) = true := by kernel_rfl
theorem parts_j2 : (Rows.partsRow.unfollowed == Tryz.prog.unfollowed 7) = true := by kernel_rfl
theorem parts_j3 : (Rows.partsRow.recurses == Tryz.prog.recurses 7) = true := by kernel_rfl
theorem parts_j4 : (Rows.partsRow.named == Tryz.prog.varsNamed 7) = true := by kernel_rfl
theorem parts_joined : Go.joinedFacts Tryz.prog 7 Tryz.f7 Rows.partsSpec Rows.partsRow = true := by
  unfold Go.joinedFacts
  rw [parts_j1, parts_j2, parts_j3, parts_j4]
  kernel_rfl
end Go.Proofs.YtkbinfhclaafhaaGreatDoor
