import Derived.Test.YtkbinfhclaafhaaGreatDoorRows
import Derived.JoinedOf
namespace Go.Proofs.YtkbinfhclaafhaaGreatDoor
set_option maxRecDepth 100000
theorem levels_j1 : (Rows.levelsRow.inPlace == Tryz.prog.inPlace 4) = true := by kernel_rfl
theorem levels_j2 : (Rows.levelsRow.unfollowed == Tryz.prog.unfollowed 4) = true := by kernel_rfl
theorem levels_j3 : (Rows.levelsRow.recurses == Tryz.prog.recurses 4) = true := by kernel_rfl
theorem levels_j4 : (Rows.levelsRow.named == Tryz.prog.varsNamed 4) = true := by kernel_rfl
theorem levels_joined : Go.joinedFacts Tryz.prog 4 Tryz.f4 Rows.levelsSpec Rows.levelsRow = true := by
 unfold Go.joinedFacts
 rw [levels_j1, levels_j2, levels_j3, levels_j4]
 kernel_rfl
end Go.Proofs.YtkbinfhclaafhaaGreatDoor
