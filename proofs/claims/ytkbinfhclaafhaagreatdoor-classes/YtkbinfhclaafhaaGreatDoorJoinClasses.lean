import Derived.Test.YtkbinfhclaafhaaGreatDoorRows
import Derived.JoinedOf
namespace Go.Proofs.YtkbinfhclaafhaaGreatDoor
set_option maxRecDepth 100000

theorem classes_j1 : (Rows.classesRow.inPlace == Tryz.prog.inPlace 3) = true := by kernel_rfl
theorem classes_j2 : (Rows.classesRow.unfollowed == Tryz.prog.unfollowed 3) = true := by kernel_rfl
theorem classes_j3 : (Rows.classesRow.recurses == Tryz.prog.recurses 3) = true := by kernel_rfl
theorem classes_j4 : (Rows.classesRow.named == Tryz.prog.varsNamed 3) = true := by kernel_rfl
theorem classes_joined : Go.joinedFacts Tryz.prog 3 Tryz.f3 Rows.classesSpec Rows.classesRow = true := by
  unfold Go.joinedFacts
  rw [classes_j1, classes_j2, classes_j3, classes_j4]
  kernel_rfl
end Go.Proofs.YtkbinfhclaafhaaGreatDoor
